package tests

import (
	"math/rand"
	"slices"
	"testing"

	"loop.example/s01493/impl"
)

func wantFixed(t *testing.T, c impl.CacheConfig, tasks [][]impl.Key, picks []int) {
	t.Helper()
	if r := impl.RunCache(c, tasks, picks); !sameReport(r, impl.CacheReport{}) {
		t.Errorf("%v %s, %d picks: %s", c, briefly(tasks), len(picks), briefly(r))
	}
}

func wantTaken(t *testing.T, c impl.CacheConfig, tasks [][]impl.Key, picks []int) {
	t.Helper()
	if r := impl.RunCache(c, tasks, picks); !r.OK || len(r.TaskSteps) != len(tasks) || len(r.Outcomes) != len(tasks) {
		t.Errorf("%v %s, %d picks: %s", c, briefly(tasks), len(picks), briefly(r))
	}
}

func TestP9WrongShapes(t *testing.T) {
	for _, c := range badShapes {
		wantFixed(t, c, nil, nil)
		wantFixed(t, c, rows(nil, nil), []int{1})
		wantFixed(t, c, rows(row(keyA, keyB), row(keyA)), []int{1, -1})
	}
	for _, c := range edgeShapes {
		wantTaken(t, c, nil, nil)
		wantTaken(t, c, rows(row(keyA, keyB), row(keyA)), []int{1, -1})
	}
}

func TestP9WrongKeys(t *testing.T) {
	for _, c := range edgeShapes {
		for _, bad := range badKeys {
			wantFixed(t, c, rows(row(bad)), nil)
			wantFixed(t, c, rows(row(bad, keyA)), nil)
			wantFixed(t, c, rows(row(keyA, bad, keyB)), nil)
			wantFixed(t, c, rows(row(keyA), nil, row(keyB, bad)), []int{1})
			wantFixed(t, c, rows(row(bad), row(keyA)), nil)
			for i := range 60 {
				full := homedRow(0, 60)
				full[i] = bad
				wantFixed(t, c, rows(nil, full), nil)
			}
		}
		for _, good := range edgeKeys {
			wantTaken(t, c, rows(row(good), row(keyA, good)), nil)
		}
	}
}

func TestP9TooManyTasks(t *testing.T) {
	for _, c := range edgeShapes {
		for n := range 9 {
			wantTaken(t, c, make([][]impl.Key, n), nil)
			wantTaken(t, c, slices.Repeat(rows(row(keyA)), n), nil)
		}
		for _, n := range []int{9, 10, 16, 100} {
			wantFixed(t, c, make([][]impl.Key, n), nil)
			wantFixed(t, c, slices.Repeat(rows(row(keyA)), n), []int{2})
		}
	}
}

func TestP9TooManyKeys(t *testing.T) {
	for _, c := range edgeShapes {
		wantTaken(t, c, rows(homedRow(0, 59)), nil)
		wantTaken(t, c, rows(homedRow(0, 60)), nil)
		wantTaken(t, c, slices.Repeat(rows(homedRow(0, 60)), 8), nil)
		for _, n := range []int{61, 62, 120} {
			wantFixed(t, c, rows(homedRow(0, n)), nil)
			wantFixed(t, c, rows(nil, row(keyA), homedRow(0, n)), nil)
			wantFixed(t, c, rows(slices.Repeat(row(keyA), n), row(keyA)), nil)
		}
	}
}

func TestP9TooManyPicks(t *testing.T) {
	for _, c := range edgeShapes {
		for _, tasks := range [][][]impl.Key{nil, {nil}, {row(keyA)}, {row(keyA, keyB), row(keyB)}} {
			wantTaken(t, c, tasks, make([]int, 19999))
			wantTaken(t, c, tasks, make([]int, 20000))
			wantFixed(t, c, tasks, make([]int, 20001))
			wantFixed(t, c, tasks, make([]int, 20002))
			wantFixed(t, c, tasks, make([]int, 40000))
		}
	}
}

// spare puts a list in front of other elements of one piece of memory.
func spare[T any](list []T, behind ...T) []T {
	whole := append(slices.Clone(list), behind...)
	return whole[:len(list)]
}

// spill writes over a list and its spare memory, spilt tells whether a list or
// its spare memory has changed.
func spill[T any](list []T, value T) {
	list = list[:cap(list)]
	for i := range list {
		list[i] = value
	}
}

func spilt[T comparable](list []T, kept []T) bool { return !slices.Equal(list[:cap(list)], kept) }

func whole[T any](list []T) []T { return slices.Clone(list[:cap(list)]) }

// listsOf are the lists of integers of an answer.
func listsOf(r impl.CacheReport) [][]int { return append([][]int{r.TaskSteps}, r.Outcomes...) }

// A run leaves its arguments alone, behind their ends too, and its answer has
// none of their memory.
func TestP9ArgumentsStay(t *testing.T) {
	r := rand.New(rand.NewSource(95))
	other := impl.Key{K: 9999, W: 9999}
	for n := range 200 {
		c, tasks, picks := someRun(r)
		if n%10 == 0 && len(tasks) > 0 {
			tasks[0] = append(tasks[0], other)
		}
		for i := range tasks {
			tasks[i] = spare(tasks[i], other, other)
		}
		tasks, picks = spare(tasks, row(other)), spare(picks, 4, 5, 6)
		keptPicks, keptTasks := whole(picks), whole(tasks)
		keptRows := make([][]impl.Key, len(keptTasks))
		for i := range keptTasks {
			keptRows[i] = whole(keptTasks[i])
		}
		changed := func() bool {
			all := tasks[:cap(tasks)]
			for i := range all {
				if len(all[i]) != len(keptTasks[i]) || spilt(all[i], keptRows[i]) {
					return true
				}
			}
			return spilt(picks, keptPicks)
		}
		report := impl.RunCache(c, tasks, picks)
		if changed() {
			t.Fatalf("%v %s: an argument is changed", c, briefly(tasks))
		}
		for _, list := range listsOf(report) {
			spill(list, -77)
		}
		spill(report.Slots, impl.SlotView{Key: other})
		spill(report.Outcomes, nil)
		if changed() {
			t.Fatalf("%v %s: the answer shares memory with an argument", c, briefly(tasks))
		}
	}
}

func TestP9ListsOfAReportShareNothing(t *testing.T) {
	r := rand.New(rand.NewSource(96))
	for range 200 {
		c, tasks, picks := someRun(r)
		report := impl.RunCache(c, tasks, picks)
		lists := listsOf(report)
		for i := range lists {
			spill(lists[i], -100-i)
		}
		// What was written last into shared memory is another list's number.
		for i, list := range lists {
			if spilt(list, slices.Repeat([]int{-100 - i}, cap(list))) {
				t.Fatalf("%v %s: two lists share memory", c, briefly(tasks))
			}
		}
		if again := impl.RunCache(c, tasks, picks); len(again.TaskSteps) != len(tasks) || slices.Contains(again.TaskSteps, -100) {
			t.Fatalf("%v %s: two answers share memory", c, briefly(tasks))
		}
		wantRun(t, c, tasks, picks)
	}
}

// A run begins with an empty cache, whatever ran ahead of it.
func TestP9RunsStandAlone(t *testing.T) {
	r := rand.New(rand.NewSource(97))
	for range 50 {
		c, tasks, picks := someRun(r)
		first := impl.RunCache(c, tasks, picks)
		impl.RunCache(c, rows(homedRow(0, 60), homedRow(20, 60)), nil)
		impl.RunCache(impl.CacheConfig{}, tasks, picks)
		if again := impl.RunCache(c, tasks, picks); !sameReport(first, again) {
			t.Fatalf("%v %s: %s, then %s", c, briefly(tasks), briefly(first), briefly(again))
		}
	}
}
