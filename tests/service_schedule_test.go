package tests

import (
	"math"
	"math/rand"
	"slices"
	"strconv"
	"testing"

	"loop.example/s01493/impl"
)

// One key, as many workers as items: who is given the first steps publishes it
// in 6 steps, and all others hit in 3.
func TestP14EachPick(t *testing.T) {
	for workers := 1; workers <= 8; workers++ {
		call := batch(slices.Repeat([]impl.Item{homedItem(0)}, workers)...)
		for _, pick := range edgePicks {
			r := impl.RunService(config(1, workers, 64), callsOf(call), slices.Repeat([]int{pick}, 6))
			if r.Steps != 6+3*(workers-1) || r.Hits != workers-1 || r.Made != 1 {
				t.Errorf("%d of %d: %+v", pick, workers, r)
			}
			wantService(t, config(1, workers, 64), callsOf(call, homedItems(1, 0, 1)), slices.Repeat([]int{pick}, 9))
		}
	}
}

// Of two keys the one of the worker that the pick names is published first.
func TestP14PicksNameAWorker(t *testing.T) {
	for _, pick := range edgePicks {
		first, second := keyA, keyB
		if placeOfPick(pick, 2) == 1 {
			first, second = keyB, keyA
		}
		wantServed(t, config(2, 2, 64), callsOf(homedItems(0, 1)), slices.Repeat([]int{pick}, 15), impl.ServiceReport{
			Calls: []impl.CallResult{tiny(2)}, Counts: []impl.Count{{Code: 0, N: 2}}, Steps: 15, Fast: 2, Made: 2, Published: 2,
			Slots: []impl.SlotView{held(0, first, false), held(1, second, false)},
		})
	}
}

// The picks go on where the last batch has left them: calls without steps use
// none up.
func TestP14PicksGoOn(t *testing.T) {
	// The second batch begins with pick 2: its second worker does all first.
	picks := append([]int{0, 0}, slices.Repeat([]int{1}, 7)...)
	calls := callsOf(batch(printing(0, lowWord(0)), printing(0, lowWord(0))), batch(), flush(), evict(keyA), homedItems(0, 1))
	want := impl.ServiceReport{
		Calls:  []impl.CallResult{answered(impl.ItemResult{Text: []byte("0")}, impl.ItemResult{Text: []byte("0")}), answered(), flushed(0), evicted(0), tiny(2)},
		Counts: []impl.Count{{Code: 0, N: 4}}, Steps: 2 + 15, Fast: 2, Made: 2, Published: 2,
		Slots: []impl.SlotView{held(0, keyB, false), held(1, keyA, false)},
	}
	wantServed(t, config(2, 2, 64), calls, picks, want)
	// By turns from there on: the first worker is the one that begins.
	want.Slots = []impl.SlotView{held(0, keyA, false), held(1, keyB, false)}
	want.Steps, want.Made, want.Lost = 2+7+13, 3, 1
	wantServed(t, config(2, 2, 64), calls, []int{0, 0}, want)
}

// Behind the picks the turns are counted over all batches: three turns in the
// first batch, so the second worker begins the second one.
func TestP14TurnsGoOn(t *testing.T) {
	three := batch(slices.Repeat([]impl.Item{printing(0, lowWord(0))}, 3)...)
	zero := impl.ItemResult{Text: []byte("0")}
	want := impl.ServiceReport{
		Calls: []impl.CallResult{answered(zero, zero, zero), tiny(2)}, Counts: []impl.Count{{Code: 0, N: 5}}, Steps: 3 + 7 + 13, Fast: 2, Made: 3, Published: 2, Lost: 1,
		Slots: []impl.SlotView{held(0, keyB, false), held(1, keyA, false)},
	}
	wantServed(t, config(2, 2, 64), callsOf(three, homedItems(0, 1)), nil, want)
	// With one pick the turns of the first batch are but two.
	want.Slots = []impl.SlotView{held(0, keyA, false), held(1, keyB, false)}
	wantServed(t, config(2, 2, 64), callsOf(three, homedItems(0, 1)), []int{0}, want)
}

// Picks of every number, so that they end within each batch and between them.
func TestP14PicksEndAnywhere(t *testing.T) {
	calls := callsOf(homedItems(0, 1, 0), evict(keyA), homedItems(1, 0, 2, 2), flush(), homedItems(2, 1))
	all := impl.RunService(config(2, 3, 64), calls, nil).Steps
	seen := map[string]bool{}
	for n := range all + 20 {
		for _, pick := range []int{0, 1, -1, math.MinInt, math.MaxInt} {
			for what := range wantService(t, config(2, 3, 64), calls, slices.Repeat([]int{pick}, n)) {
				seen[what] = true
			}
		}
	}
	if !seen[metPicksBridge] || !seen[metPicksEnd] {
		t.Error("the picks don't end everywhere:", seen)
	}
}

func TestP14MostPicks(t *testing.T) {
	r := rand.New(rand.NewSource(144))
	picks := make([]int, 20000)
	for i := range picks {
		picks[i] = edgePicks[r.Intn(len(edgePicks))]
	}
	var calls []impl.Call
	for i := range 8 {
		var items []impl.Item
		for j := range 40 {
			items = append(items, homedItem((i*40+j)%150))
		}
		calls = append(calls, batch(items...))
	}
	for _, n := range []int{1, 19999, 20000} {
		if met := wantService(t, config(64, 5, 64), calls, picks[:n]); !met[metPicksEnd] && !met[metPicksBridge] {
			t.Error("the picks outlast the run")
		}
	}
}

// What one worker needs for the j-th of keys that are all new, in 64 slots of
// one home: Begin, 64 looks, Make, the full slots and one more, Swap, Finish; a
// full shard is passed and the hand takes a slot.
func newKeySteps(j int) int {
	if j < 64 {
		return 1 + 64 + 1 + j + 1 + 1 + 1
	}
	return 1 + 64 + 1 + 64 + 1 + 1 + 1
}

// longKeys are more than 64 slots hold, so that the first of them is gone when
// it comes again.
const longKeys = 70

// longRun is batches whose items need that many steps in all, with one worker
// in 64 slots: keys that are always new, and words to be printed for the steps
// that are left.
func longRun(steps int) ([]impl.Call, int) {
	var items []impl.Item
	keys := 0
	for steps >= newKeySteps(keys) {
		steps -= newKeySteps(keys)
		items = append(items, homedItem(keys%longKeys))
		keys++
	}
	for range steps {
		items = append(items, printing(impl.Binary32, lowWord(0x3f800000)))
	}
	var calls []impl.Call
	for part := range slices.Chunk(items, 40) {
		calls = append(calls, batch(part...))
	}
	return calls, keys
}

// wantLong asks for what a long run of one worker leaves behind.
func wantLong(t *testing.T, r impl.ServiceReport, done bool, calls int, keys int, items int) {
	t.Helper()
	if !r.OK || r.Done != done || r.Steps != 60000 || len(r.Calls) != calls {
		t.Errorf("OK %v, done %v, %d steps, %d calls, not %d", r.OK, r.Done, r.Steps, len(r.Calls), calls)
	}
	if r.Fast != keys || r.Slow != 0 || r.Hits != 0 || r.Made != keys || r.Published != keys || r.Evicted != keys-64 || r.Lost != 0 {
		t.Errorf("%d keys: %s", keys, briefly(r))
	}
	if !slices.Equal(r.Counts, []impl.Count{{Code: 0, N: items}}) {
		t.Errorf("%v of %d items", r.Counts, items)
	}
}

func TestP15LastStepOfTheLimit(t *testing.T) {
	calls, keys := longRun(60000)
	items := 40*(len(calls)-1) + len(calls[len(calls)-1].Items)
	wantService(t, config(64, 1, 64), calls, nil)
	r := impl.RunService(config(64, 1, 64), calls, nil)
	wantLong(t, r, true, len(calls), keys, items)
	if len(r.Slots) != 64 {
		t.Error(len(r.Slots))
	}
	// What takes no steps can still be run.
	more := append(slices.Clone(calls), batch(), evict(homed((keys-1)%longKeys)), batch(), flush(), batch())
	wantService(t, config(64, 1, 64), more, nil)
	r = impl.RunService(config(64, 1, 64), more, nil)
	wantLong(t, r, true, len(more), keys, items)
	if len(r.Slots) != 0 || r.Calls[len(calls)+1].Removed != 1 || r.Calls[len(calls)+3].Removed != 63 {
		t.Error(len(r.Slots), briefly(r.Calls[len(calls):]))
	}
}

// One step more in the last batch: that batch answers nothing, what it did to
// the cache and the counters stays, and what stands behind it is not run.
func TestP15OneStepBeyondTheLimit(t *testing.T) {
	calls, keys := longRun(60000)
	last := len(calls) - 1
	calls[last] = batch(append(slices.Clone(calls[last].Items), printing(impl.Binary32, lowWord(0)))...)
	for _, behind := range [][]impl.Call{nil, {flush()}, {batch(), evict(homed(0)), flush(), batch(reading(0, "x"))}} {
		all := append(slices.Clone(calls), behind...)
		wantService(t, config(64, 1, 64), all, nil)
		r := impl.RunService(config(64, 1, 64), all, nil)
		wantLong(t, r, false, last, keys, 40*last)
		if len(r.Slots) != 64 {
			t.Error(len(r.Slots))
		}
	}
}

// The next batch needs the step: all that ran ahead of it is told.
func TestP15NextBatchBeyondTheLimit(t *testing.T) {
	calls, keys := longRun(60000)
	items := 40*(len(calls)-1) + len(calls[len(calls)-1].Items)
	for _, next := range []impl.Call{batch(reading(0, "x")), homedItems(0, 1, 2), batch(printing(9, lowWord(0)))} {
		all := append(slices.Clone(calls), flush(), next, flush())
		wantService(t, config(64, 1, 64), all, nil)
		r := impl.RunService(config(64, 1, 64), all, nil)
		wantLong(t, r, false, len(calls)+1, keys, items)
		if r.Calls[len(calls)].Removed != 64 || len(r.Slots) != 0 {
			t.Error(briefly(r.Calls[len(calls)]), len(r.Slots))
		}
	}
}

// A new key in a full shard, cut off behind each sort of step: what was done
// counts, what was not reached does not.
func TestP15CutOffInEachPhase(t *testing.T) {
	for _, x := range []struct{ left, made, swapped, finished int }{
		{0, 0, 0, 0}, {1, 0, 0, 0}, {2, 0, 0, 0}, {65, 0, 0, 0}, {66, 1, 0, 0}, {67, 1, 0, 0}, {130, 1, 0, 0}, {131, 1, 0, 0}, {132, 1, 1, 0}, {133, 1, 1, 1},
	} {
		calls, keys := longRun(60000 - x.left)
		calls = append(calls, homedItems(keys%longKeys), flush())
		r := impl.RunService(config(64, 1, 64), calls, nil)
		done := x.finished == 1
		if r.Done != done || r.Steps != 60000 || r.Made != keys+x.made || r.Published != keys+x.swapped || r.Evicted != keys-64+x.swapped || r.Fast != keys+x.finished {
			t.Errorf("%d steps left, %d keys ahead: %s", x.left, keys, briefly(r))
		}
		if !done && (len(r.Calls) != len(calls)-2 || len(r.Slots) != 64) {
			t.Errorf("%d steps left: %d calls, %d slots", x.left, len(r.Calls), len(r.Slots))
		}
		wantService(t, config(64, 1, 64), calls, nil)
	}
}

// Several workers in one full shard, cut off in the midst of their searches.
func TestP15CutOffAmongWorkers(t *testing.T) {
	r := rand.New(rand.NewSource(151))
	for _, workers := range []int{2, 3, 8} {
		for _, n := range []int{0, 7000, 20000} {
			calls := make([]impl.Call, 30)
			for i := range calls {
				calls[i] = batch(make([]impl.Item, 40)...)
				for j := range calls[i].Items {
					calls[i].Items[j] = homedItem(r.Intn(160))
					if r.Intn(9) == 0 {
						calls[i].Items[j] = reading(r.Intn(6)-1, strconv.Itoa(r.Intn(3))+"x")
					}
				}
			}
			picks := make([]int, n)
			for i := range picks {
				picks[i] = int(r.Uint64())
			}
			wantService(t, config(64, workers, 64), calls, picks)
			report := impl.RunService(config(64, workers, 64), calls, picks)
			if report.Done || len(report.Calls) < 5 || report.Evicted == 0 || report.Hits == 0 || len(report.Counts) < 2 {
				t.Error(workers, n, report.Done, len(report.Calls), report.Evicted, report.Hits, report.Counts)
			}
		}
	}
}
