package tests

import (
	"math"
	"math/big"
	"math/rand"
	"slices"
	"testing"

	"loop.example/s01493/impl"
)

var edgePicks = []int{
	0, 1, 2, 3, 6, 7, 8, 9, 100, -1, -2, -3, -4, -7, -8, -9, -100, 1 << 32, -1 << 32, 1<<32 - 1,
	math.MaxInt, math.MaxInt - 1, math.MinInt, math.MinInt + 1, math.MaxInt32, math.MinInt32,
}

// placeOfPick is the modulo that is never negative.
func placeOfPick(pick int, live int) int {
	return int(new(big.Int).Mod(big.NewInt(int64(pick)), big.NewInt(int64(live))).Int64())
}

// The task that is given the first four steps publishes the key that all ask
// for; the others hit.
func TestP9EachPick(t *testing.T) {
	for live := 1; live <= 8; live++ {
		tasks := slices.Repeat(rows(row(keyA)), live)
		for _, pick := range edgePicks {
			want := slices.Repeat([][]int{{impl.OutHit}}, live)
			want[placeOfPick(pick, live)] = []int{impl.OutMade}
			r := impl.RunCache(slots(1), tasks, []int{pick, pick, pick, pick})
			if !slices.EqualFunc(r.Outcomes, want, slices.Equal[[]int]) || r.Steps != 3+live {
				t.Errorf("%d of %d: %+v", pick, live, r)
			}
		}
	}
}

// Of many live tasks those that end leave the list, so that the same pick
// reaches the next ones.
func TestP9PicksAmongTheLive(t *testing.T) {
	for _, pick := range edgePicks {
		wantRun(t, slots(2), slices.Repeat(rows(row(keyA, keyB, keyC)), 8), slices.Repeat([]int{pick}, 500))
	}
	r := impl.RunCache(slots(1), rows(row(keyA), row(keyA), row(keyB)), []int{1, 1, 1, 1, 1, 1, 1, 1, 1})
	if !slices.EqualFunc(r.Outcomes, [][]int{{2}, {2}, {2}}, slices.Equal[[]int]) || !slices.Equal(r.TaskSteps, []int{5, 4, 5}) {
		t.Errorf("%+v", r)
	}
}

// Behind the last pick the turns begin with the first of the live tasks,
// however many picks there were.
func TestP9TurnsFollowPicks(t *testing.T) {
	for n := range 30 {
		for _, pick := range []int{0, 1, -1, 2} {
			met := wantRun(t, slots(3), rows(row(keyA, keyB), row(keyA, keyC), row(keyB, keyD, keyA)), slices.Repeat([]int{pick}, n))
			if n > 0 && !met[metTurn] {
				t.Errorf("%d picks: no turn", n)
			}
		}
	}
	// One pick, then turns among three live tasks, then among two and one.
	for pick, want := range []struct {
		steps []int
		lost  int
	}{{[]int{4, 6, 5}, 1}, {[]int{5, 4, 6}, 1}, {[]int{5, 5, 4}, 2}} {
		r := impl.RunCache(slots(1), slices.Repeat(rows(row(keyA)), 3), []int{pick})
		if !slices.Equal(r.TaskSteps, want.steps) || r.Lost != want.lost {
			t.Errorf("pick %d: %+v", pick, r)
		}
	}
}

// Picks beyond the end of a run change nothing.
func TestP9SparePicks(t *testing.T) {
	tasks := rows(row(keyA, keyB), row(keyA))
	picks := []int{1, 0, 0, 1, -1, 5, 3, 1, 1, 0, 0, 0, 0, 1, 1, 0, 1, 0, 0, 1, 0, 1, 0}
	want := impl.RunCache(slots(2), tasks, picks)
	for _, spare := range [][]int{{7}, {-7, math.MinInt}, make([]int, 20000-len(picks))} {
		if got := impl.RunCache(slots(2), tasks, append(slices.Clone(picks), spare...)); !sameReport(got, want) || got.Steps > len(picks) {
			t.Errorf("%+v, not %+v", got, want)
		}
	}
}

func TestP9MostPicks(t *testing.T) {
	r := rand.New(rand.NewSource(93))
	picks := make([]int, 20000)
	for i := range picks {
		picks[i] = edgePicks[r.Intn(len(edgePicks))]
	}
	for _, n := range []int{1, 19999, 20000} {
		met := wantRun(t, slots(64), slices.Repeat(rows(homedRow(0, 60)), 8), picks[:n])
		if !met[metTurn] {
			t.Error("the picks outlast the run")
		}
	}
}

// A row of n keys that all have one home passes 64 slots, makes, passes the
// full slots and swaps: 67 steps and one more for each key ahead of it.
func rowSteps(n int) int { return 67*n + n*(n-1)/2 }

// apart gives each task keys of its own shard, so that its steps hang on no
// other; in all they are 40000.
func apart() (impl.CacheConfig, [][]impl.Key) {
	tasks := make([][]impl.Key, 7)
	for i := range tasks {
		for j := range 60 {
			tasks[i] = append(tasks[i], impl.Key{K: -5200 + 64*j + i, W: 64})
		}
	}
	// What lies 55 and 35 slots on is found in as many steps.
	tasks[6] = append(tasks[6][:55], tasks[6][54], tasks[6][34])
	return impl.CacheConfig{Shards: 8, Slots: 64}, tasks
}

func TestP9LastStepOfTheLimit(t *testing.T) {
	c, tasks := apart()
	for _, picks := range [][]int{nil, make([]int, 20000), slices.Repeat([]int{6}, 20000)} {
		wantRun(t, c, tasks, picks)
		r := impl.RunCache(c, tasks, picks)
		if !r.Done || r.Steps != 40000 || r.Hits != 2 || r.Published != 415 || r.TaskSteps[0] != rowSteps(60) || r.TaskSteps[6] != rowSteps(55)+90 {
			t.Error(r.Done, r.Steps, r.TaskSteps, r.Hits, r.Published)
		}
	}
}

// One step more than the limit: the search that needs it has no outcome.
func TestP9OneStepBeyondTheLimit(t *testing.T) {
	c, tasks := apart()
	tasks[6] = append(tasks[6], tasks[6][0])
	for _, picks := range [][]int{nil, make([]int, 20000)} {
		wantRun(t, c, tasks, picks)
		r := impl.RunCache(c, tasks, picks)
		none := 0
		for _, outcomes := range r.Outcomes {
			for _, out := range outcomes {
				if out == impl.OutNone {
					none++
				}
			}
		}
		if r.Done || !r.OK || r.Steps != 40000 || none != 1 || r.Hits+r.Published != 417 {
			t.Error(r.OK, r.Done, r.Steps, none, r.Hits, r.Published)
		}
	}
}

// A run that the limit cuts off tells what was done until then.
func TestP9RunCutOff(t *testing.T) {
	c := impl.CacheConfig{Shards: 8, Slots: 64}
	tasks := make([][]impl.Key, 8)
	for i := range tasks {
		for j := range 60 {
			tasks[i] = append(tasks[i], impl.Key{K: -5200 + 64*j + i, W: 64})
		}
	}
	wantRun(t, c, tasks, nil)
	r := impl.RunCache(c, tasks, nil)
	// By turns each has 5000 steps: 53 searches take 4929, the next makes its entry.
	for i, outcomes := range r.Outcomes {
		if r.TaskSteps[i] != 5000 || slices.Index(outcomes, impl.OutNone) != 53 || slices.Max(outcomes[53:]) != impl.OutNone {
			t.Errorf("task %d: %d steps, %v", i, r.TaskSteps[i], outcomes)
		}
	}
	if rowSteps(53) != 4929 || r.Done || r.Steps != 40000 || r.Made != 8*54 || r.Published != 8*53 || r.Hits != 0 || r.Evicted != 0 || r.Lost != 0 || len(r.Slots) != 8*53 {
		t.Errorf("%d %s", rowSteps(53), briefly(r))
	}
}

// Eight tasks that go after each other's keys in one full shard, cut off.
func TestP9RunCutOffInTheMidst(t *testing.T) {
	r := rand.New(rand.NewSource(94))
	for _, n := range []int{0, 5000, 20000} {
		tasks := make([][]impl.Key, 8)
		for i := range tasks {
			for range 60 {
				tasks[i] = append(tasks[i], homed(r.Intn(160)))
			}
		}
		picks := make([]int, n)
		for i := range picks {
			picks[i] = int(r.Uint64())
		}
		wantRun(t, slots(64), tasks, picks)
		if report := impl.RunCache(slots(64), tasks, picks); report.Done || report.Lost == 0 || report.Evicted == 0 || report.Hits == 0 {
			t.Error(briefly(report))
		}
	}
}
