package tests

import (
	"math/rand"
	"slices"
	"testing"

	"loop.example/s01493/impl"
)

// The keys of the runs worked out by hand: one shard and the home 0 for a to d,
// the home 3 for those behind.
var (
	keyA, keyB, keyC, keyD = homed(0), homed(1), homed(2), homed(3)
	lastA, lastB           = impl.Key{K: -5197, W: 64}, impl.Key{K: -5133, W: 64}
)

func row(keys ...impl.Key) []impl.Key { return keys }

func rows(rows ...[]impl.Key) [][]impl.Key { return rows }

func slots(n int) impl.CacheConfig { return impl.CacheConfig{Shards: 1, Slots: n} }

func held(slot int, k impl.Key, mark bool) impl.SlotView {
	return impl.SlotView{Slot: slot, Key: k, Mark: mark}
}

// wantReport holds a run against a report written out, and against the meant one.
func wantReport(t *testing.T, c impl.CacheConfig, tasks [][]impl.Key, picks []int, want impl.CacheReport) {
	t.Helper()
	want.OK, want.Done = true, true
	if got := impl.RunCache(c, tasks, picks); !sameReport(got, want) {
		t.Errorf("%v %s %v:\n%+v, not\n%+v", c, briefly(tasks), picks, got, want)
	}
	wantRun(t, c, tasks, picks)
}

func TestP9SearchThatHitsAtOnce(t *testing.T) {
	wantReport(t, slots(4), rows(row(keyA, keyA)), nil, impl.CacheReport{
		Steps: 8, TaskSteps: []int{8}, Outcomes: [][]int{{2, 1}}, Hits: 1, Made: 1, Published: 1,
		Slots: []impl.SlotView{held(0, keyA, true)},
	})
}

func TestP9SearchBehindOtherSlots(t *testing.T) {
	wantReport(t, slots(4), rows(row(keyA, keyB, keyB)), nil, impl.CacheReport{
		Steps: 17, TaskSteps: []int{17}, Outcomes: [][]int{{2, 2, 1}}, Hits: 1, Made: 2, Published: 2,
		Slots: []impl.SlotView{held(0, keyA, false), held(1, keyB, true)},
	})
	wantReport(t, slots(4), rows(row(lastA, lastB, lastB)), nil, impl.CacheReport{
		Steps: 17, TaskSteps: []int{17}, Outcomes: [][]int{{2, 2, 1}}, Hits: 1, Made: 2, Published: 2,
		Slots: []impl.SlotView{held(0, lastB, true), held(3, lastA, false)},
	})
}

// An entry is of a power and a width: keys that share one of them are two.
func TestP9KeysAreToldApart(t *testing.T) {
	narrow := impl.Key{K: keyA.K, W: 63}
	wantReport(t, slots(1), rows(row(keyA, narrow, keyA)), nil, impl.CacheReport{
		Steps: 14, TaskSteps: []int{14}, Outcomes: [][]int{{2, 2, 2}}, Made: 3, Published: 3, Evicted: 2,
		Slots: []impl.SlotView{held(0, keyA, false)},
	})
}

func TestP9KeyEvictedAndAskedForAgain(t *testing.T) {
	wantReport(t, slots(2), rows(row(keyA, keyB, keyC, keyD, keyA)), nil, impl.CacheReport{
		Steps: 32, TaskSteps: []int{32}, Outcomes: [][]int{{2, 2, 2, 2, 2}}, Made: 5, Published: 5, Evicted: 3,
		Slots: []impl.SlotView{held(0, keyA, false), held(1, keyD, false)},
	})
}

func TestP9HandPassesMarkedSlot(t *testing.T) {
	wantReport(t, slots(2), rows(row(keyA, keyB, keyA, keyC)), nil, impl.CacheReport{
		Steps: 20, TaskSteps: []int{20}, Outcomes: [][]int{{2, 2, 1, 2}}, Hits: 1, Made: 3, Published: 3, Evicted: 1,
		Slots: []impl.SlotView{held(0, keyA, false), held(1, keyC, false)},
	})
	// With its mark taken away, the slot that was passed is the next to go.
	wantReport(t, slots(2), rows(row(keyA, keyB, keyA, keyC, keyD)), nil, impl.CacheReport{
		Steps: 27, TaskSteps: []int{27}, Outcomes: [][]int{{2, 2, 1, 2, 2}}, Hits: 1, Made: 4, Published: 4, Evicted: 2,
		Slots: []impl.SlotView{held(0, keyD, false), held(1, keyC, false)},
	})
}

func TestP9HandGoesOnceAround(t *testing.T) {
	wantReport(t, slots(2), rows(row(keyA, keyB, keyA, keyB, keyC)), nil, impl.CacheReport{
		Steps: 23, TaskSteps: []int{23}, Outcomes: [][]int{{2, 2, 1, 1, 2}}, Hits: 2, Made: 3, Published: 3, Evicted: 1,
		Slots: []impl.SlotView{held(0, keyC, false), held(1, keyB, false)},
	})
}

func TestP9EachShardHasItsHand(t *testing.T) {
	c := impl.CacheConfig{Shards: 2, Slots: 2}
	other := func(j int) impl.Key { return impl.Key{K: -5199 + 64*j, W: 64} }
	wantReport(t, c, rows(row(keyA, keyB, keyC, other(0), other(1), other(2))), nil, impl.CacheReport{
		Steps: 36, TaskSteps: []int{36}, Outcomes: [][]int{{2, 2, 2, 2, 2, 2}}, Made: 6, Published: 6, Evicted: 2,
		Slots: []impl.SlotView{
			{Shard: 0, Slot: 0, Key: keyC}, {Shard: 0, Slot: 1, Key: keyB},
			{Shard: 1, Slot: 0, Key: other(2)}, {Shard: 1, Slot: 1, Key: other(0)},
		},
	})
}

func TestP9LostSwapBeginsAgain(t *testing.T) {
	wantReport(t, slots(2), rows(row(keyA), row(keyB)), nil, impl.CacheReport{
		Steps: 16, TaskSteps: []int{5, 11}, Outcomes: [][]int{{2}, {2}}, Made: 3, Published: 2, Lost: 1,
		Slots: []impl.SlotView{held(0, keyA, false), held(1, keyB, false)},
	})
	// A slot that the hand has chosen is lost as well.
	wantReport(t, slots(1), rows(row(keyA, keyB), row(keyC)), []int{0, 0, 0, 0, 0, 0, 0, 0, 1, 1, 1, 1, 1}, impl.CacheReport{
		Steps: 19, TaskSteps: []int{14, 5}, Outcomes: [][]int{{2, 2}, {2}}, Made: 4, Published: 3, Evicted: 2, Lost: 1,
		Slots: []impl.SlotView{held(0, keyB, false)},
	})
}

func TestP9LostSwapThatHits(t *testing.T) {
	wantReport(t, slots(1), rows(row(keyA), row(keyA), row(keyA)), []int{2}, impl.CacheReport{
		Steps: 14, TaskSteps: []int{5, 5, 4}, Outcomes: [][]int{{1}, {1}, {2}}, Hits: 2, Made: 3, Published: 1, Lost: 2,
		Slots: []impl.SlotView{held(0, keyA, true)},
	})
}

func TestP9OneKeyPublishedTwice(t *testing.T) {
	wantReport(t, slots(2), rows(row(keyA), row(keyA)), []int{1, 1, 0, 0, 0, 0, 0}, impl.CacheReport{
		Steps: 11, TaskSteps: []int{5, 6}, Outcomes: [][]int{{2}, {2}}, Made: 2, Published: 2,
		Slots: []impl.SlotView{held(0, keyA, false), held(1, keyA, false)},
	})
}

// A hit sets a mark and no stamp: the swap is not lost, and takes the mark away.
func TestP9HitBetweenPickAndSwap(t *testing.T) {
	wantReport(t, slots(1), rows(row(keyA, keyB), row(keyA)), []int{0, 0, 0, 0, 0, 0, 0, 0, 1}, impl.CacheReport{
		Steps: 10, TaskSteps: []int{9, 1}, Outcomes: [][]int{{2, 2}, {1}}, Hits: 1, Made: 2, Published: 2, Evicted: 1,
		Slots: []impl.SlotView{held(0, keyB, false)},
	})
}

// Two searches that the hand serves one after the other get two slots.
func TestP9HandMovesOnWithThePick(t *testing.T) {
	picks := slices.Concat(slices.Repeat([]int{0}, 11), slices.Repeat([]int{0, 1}, 7))
	wantReport(t, slots(2), rows(row(keyA, keyB, keyC), row(keyD)), picks, impl.CacheReport{
		Steps: 25, TaskSteps: []int{18, 7}, Outcomes: [][]int{{2, 2, 2}, {2}}, Made: 4, Published: 4, Evicted: 2,
		Slots: []impl.SlotView{held(0, keyC, false), held(1, keyD, false)},
	})
}

func TestP9NothingToDo(t *testing.T) {
	for _, c := range edgeShapes {
		for _, picks := range [][]int{nil, {}, {1, -1}, make([]int, 20000)} {
			wantReport(t, c, nil, picks, impl.CacheReport{})
			wantReport(t, c, rows(), picks, impl.CacheReport{})
			wantReport(t, c, rows(nil, row(), nil), picks, impl.CacheReport{TaskSteps: []int{0, 0, 0}, Outcomes: [][]int{{}, {}, {}}})
			wantReport(t, c, make([][]impl.Key, 8), picks, impl.CacheReport{TaskSteps: make([]int, 8), Outcomes: make([][]int, 8)})
		}
	}
}

func TestP9TasksWithoutKeysAreNotLive(t *testing.T) {
	wantReport(t, slots(2), rows(nil, row(keyA), row(), row(keyA)), []int{1, 1, 0, 0, 0, 0, 0}, impl.CacheReport{
		Steps: 11, TaskSteps: []int{0, 5, 0, 6}, Outcomes: [][]int{{}, {2}, {}, {2}}, Made: 2, Published: 2,
		Slots: []impl.SlotView{held(0, keyA, false), held(1, keyA, false)},
	})
}

func TestP9EdgeKeysInEdgeShapes(t *testing.T) {
	for _, c := range edgeShapes {
		for _, k := range edgeKeys {
			wantRun(t, c, rows(row(k, k), row(k)), nil)
		}
		wantRun(t, c, rows(edgeKeys, edgeKeys), []int{0, 0, 0, 1, -1})
	}
}

func TestP9SomeRuns(t *testing.T) {
	r := rand.New(rand.NewSource(91))
	seen := map[string]int{}
	for range 3000 {
		c, tasks, picks := someRun(r)
		for what := range wantRun(t, c, tasks, picks) {
			seen[what]++
		}
	}
	for _, what := range allMet {
		if seen[what] < 10 {
			t.Errorf("%s: in %d runs", what, seen[what])
		}
	}
}

// Full tasks and any shape: more than the limit lets end, and less.
func TestP9GreatRuns(t *testing.T) {
	r := rand.New(rand.NewSource(92))
	for range 60 {
		c := impl.CacheConfig{Shards: 1 + r.Intn(16), Slots: 1 + r.Intn(64)}
		tasks := make([][]impl.Key, 8)
		kinds := 1 + r.Intn(600)
		for i := range tasks {
			for range 60 - r.Intn(2)*r.Intn(60) {
				tasks[i] = append(tasks[i], impl.Key{K: r.Intn(kinds)*17 - 5000, W: 1 + r.Intn(128)})
			}
		}
		picks := make([]int, r.Intn(20001))
		for i := range picks {
			picks[i] = int(r.Uint64())
		}
		wantRun(t, c, tasks, picks)
	}
}
