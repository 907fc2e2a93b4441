package tests

import (
	"math"
	"math/rand"
	"runtime"
	"slices"
	"sync"
	"testing"
	"time"

	"loop.example/s01493/impl"
)

func wantUnserved(t *testing.T, c impl.ServiceConfig, calls []impl.Call, picks []int) {
	t.Helper()
	if r := impl.RunService(c, calls, picks); !sameService(r, impl.ServiceReport{}) {
		t.Errorf("%v %s, %d picks: %s", c, briefly(calls), len(picks), briefly(r))
	}
}

func wantRunnable(t *testing.T, c impl.ServiceConfig, calls []impl.Call, picks []int) {
	t.Helper()
	if r := impl.RunService(c, calls, picks); !r.OK || !r.Done || len(r.Calls) != len(calls) {
		t.Errorf("%v %s, %d picks: %s", c, briefly(calls), len(picks), briefly(r))
	}
}

// someCalls are in order, so that only what stands beside them is not.
var someCalls = callsOf(homedItems(0, 1), evict(keyA), flush(), batch(printing(0, lowWord(1)), reading(7, "x")))

func TestP14WrongConfigs(t *testing.T) {
	good := impl.ServiceConfig{Cache: impl.CacheConfig{Shards: 2, Slots: 4}, Workers: 2, Width: 64}
	for _, calls := range [][]impl.Call{nil, {}, someCalls} {
		for _, workers := range []int{0, -1, 9, 10, 16, math.MinInt, math.MaxInt, 1<<32 + 1} {
			c := good
			c.Workers = workers
			wantUnserved(t, c, calls, nil)
		}
		for _, width := range append([]int{0, -1, 129, 130, 1<<32 + 64, math.MinInt, math.MaxInt}, noWidths...) {
			c := good
			c.Width = width
			wantUnserved(t, c, calls, nil)
		}
		for _, shape := range badShapes {
			c := good
			c.Cache = shape
			wantUnserved(t, c, calls, nil)
		}
		wantUnserved(t, impl.ServiceConfig{}, calls, nil)
		for _, shape := range edgeShapes {
			for _, workers := range []int{1, 2, 7, 8} {
				for _, width := range []int{1, 2, 127, 128} {
					wantRunnable(t, impl.ServiceConfig{Cache: shape, Workers: workers, Width: width}, calls, nil)
				}
			}
		}
	}
}

func TestP14NumbersOfCalls(t *testing.T) {
	c := config(2, 2, 64)
	for _, call := range []impl.Call{batch(), flush(), evict(keyA), batch(reading(0, "1"), printing(0, lowWord(1)))} {
		wantRunnable(t, c, slices.Repeat(callsOf(call), 29), nil)
		wantRunnable(t, c, slices.Repeat(callsOf(call), 30), nil)
		wantUnserved(t, c, slices.Repeat(callsOf(call), 31), nil)
		wantUnserved(t, c, slices.Repeat(callsOf(call), 100), nil)
	}
}

func TestP14WrongKinds(t *testing.T) {
	c := config(2, 2, 64)
	for _, kind := range []int{-1, 3, 4, -2, 256, math.MinInt, math.MaxInt, 1 << 32} {
		wrong := impl.Call{Kind: kind, Key: keyA}
		wantUnserved(t, c, callsOf(wrong), nil)
		wantUnserved(t, c, append(slices.Clone(someCalls), wrong), nil)
		wantUnserved(t, c, append(callsOf(wrong), someCalls...), nil)
		wantUnserved(t, c, append(slices.Repeat(callsOf(flush()), 29), wrong), nil)
	}
}

func TestP14NumbersOfItems(t *testing.T) {
	c := config(2, 3, 64)
	for _, item := range []impl.Item{{}, reading(0, "1"), printing(3, lowWord(1)), reading(-1, "x")} {
		for _, n := range []int{0, 1, 39, 40} {
			calls := append(slices.Clone(someCalls), batch(slices.Repeat([]impl.Item{item}, n)...))
			wantService(t, c, calls, nil)
			if r := impl.RunService(c, calls, nil); len(r.Calls[len(someCalls)].Items) != n {
				t.Errorf("%d items: %s", n, briefly(r))
			}
		}
		for _, n := range []int{41, 42, 80, 1000} {
			wrong := batch(slices.Repeat([]impl.Item{item}, n)...)
			wantUnserved(t, c, callsOf(wrong), nil)
			wantUnserved(t, c, append(slices.Clone(someCalls), wrong, flush()), nil)
		}
	}
}

func TestP14WrongKeys(t *testing.T) {
	c := config(2, 2, 64)
	for _, key := range badKeys {
		wantUnserved(t, c, callsOf(evict(key)), nil)
		wantUnserved(t, c, append(slices.Clone(someCalls), evict(key), flush()), nil)
	}
	for _, key := range edgeKeys {
		wantRunnable(t, c, callsOf(evict(key)), nil)
		wantRunnable(t, c, append(slices.Clone(someCalls), evict(key), flush()), nil)
	}
}

// What a call has no use for is not looked at, however wrong it is.
func TestP14WhatIsNotLookedAt(t *testing.T) {
	c := config(2, 2, 64)
	many := make([]impl.Item, 1000)
	wrong := slices.Repeat([]impl.Item{reading(-7, "x"), printing(9, impl.Word{Hi: most, Lo: most})}, 50)
	for _, key := range badKeys {
		for _, items := range [][]impl.Item{nil, many, wrong} {
			wantServed(t, c, callsOf(homedItems(0), impl.Call{Kind: impl.CallFlush, Items: items, Key: key}), nil, impl.ServiceReport{
				Calls: []impl.CallResult{tiny(1), flushed(1)}, Counts: []impl.Count{{Code: 0, N: 1}}, Steps: 7, Fast: 1, Made: 1, Published: 1,
			})
			wantServed(t, c, callsOf(homedItems(0), impl.Call{Kind: impl.CallEvict, Items: items, Key: keyA}), nil, impl.ServiceReport{
				Calls: []impl.CallResult{tiny(1), evicted(1)}, Counts: []impl.Count{{Code: 0, N: 1}}, Steps: 7, Fast: 1, Made: 1, Published: 1,
			})
		}
		wantServed(t, c, callsOf(impl.Call{Kind: impl.CallBatch, Items: homedItems(0).Items, Key: key}), nil, impl.ServiceReport{
			Calls: []impl.CallResult{tiny(1)}, Counts: []impl.Count{{Code: 0, N: 1}}, Steps: 7, Fast: 1, Made: 1, Published: 1,
			Slots: []impl.SlotView{held(0, keyA, false)},
		})
	}
}

func TestP14NumbersOfPicks(t *testing.T) {
	c := config(2, 2, 64)
	for _, calls := range [][]impl.Call{nil, someCalls} {
		wantRunnable(t, c, calls, make([]int, 19999))
		wantRunnable(t, c, calls, make([]int, 20000))
		wantUnserved(t, c, calls, make([]int, 20001))
		wantUnserved(t, c, calls, make([]int, 40000))
	}
}

// keptCalls is a copy of calls with all that lies in their memory.
type keptCalls struct {
	calls []impl.Call
	kept  []impl.Call
	items [][]impl.Item
	texts [][][]byte
}

func keepCalls(calls []impl.Call) keptCalls {
	k := keptCalls{calls: calls, kept: whole(calls)}
	for _, call := range k.kept {
		k.items = append(k.items, whole(call.Items))
		var texts [][]byte
		for _, item := range call.Items[:cap(call.Items)] {
			texts = append(texts, whole(item.Text))
		}
		k.texts = append(k.texts, texts)
	}
	return k
}

func (k keptCalls) changed() bool {
	for i, call := range k.calls[:cap(k.calls)] {
		if call.Kind != k.kept[i].Kind || call.Key != k.kept[i].Key || len(call.Items) != len(k.kept[i].Items) {
			return true
		}
		for j, item := range call.Items[:cap(call.Items)] {
			was := k.items[i][j]
			if item.Print != was.Print || item.F != was.F || item.W != was.W || len(item.Text) != len(was.Text) || spilt(item.Text, k.texts[i][j]) {
				return true
			}
		}
	}
	return false
}

// sparedCalls puts every list of the calls in front of other elements.
func sparedCalls(calls []impl.Call) []impl.Call {
	other := reading(77, "77")
	for i := range calls {
		for j := range calls[i].Items {
			calls[i].Items[j].Text = spare(calls[i].Items[j].Text, []byte("e99")...)
		}
		calls[i].Items = spare(calls[i].Items, other, other)
	}
	return spare(calls, batch(other), flush())
}

// spillReport writes over all lists of a report, the inner ones first.
func spillReport(r impl.ServiceReport) {
	for _, call := range r.Calls {
		for _, answer := range call.Items {
			spill(answer.Text, 'z')
		}
		spill(call.Items, impl.ItemResult{Code: 99})
	}
	spill(r.Calls, impl.CallResult{Kind: 99})
	spill(r.Counts, impl.Count{Code: 99})
	spill(r.Slots, impl.SlotView{Shard: 99})
}

// A run leaves its arguments alone, behind their ends too, and its answer has
// none of their memory.
func TestP14ArgumentsStay(t *testing.T) {
	r := rand.New(rand.NewSource(145))
	for range 300 {
		c, calls, picks := someService(r)
		calls, picks = sparedCalls(calls), spare(picks, 4, 5, 6)
		kept, keptPicks := keepCalls(calls), whole(picks)
		report := impl.RunService(c, calls, picks)
		if kept.changed() || spilt(picks, keptPicks) {
			t.Fatalf("%v %s: an argument is changed", c, briefly(calls))
		}
		told := plainService(report)
		spillReport(report)
		if kept.changed() || spilt(picks, keptPicks) {
			t.Fatalf("%v %s: the answer shares memory with an argument", c, briefly(calls))
		}
		again := impl.RunService(c, calls, picks)
		for _, call := range calls[:cap(calls)] {
			for _, item := range call.Items[:cap(call.Items)] {
				spill(item.Text, 'q')
			}
			spill(call.Items, impl.Item{F: 99})
		}
		spill(calls, impl.Call{Kind: 99})
		spill(picks, 99)
		if !sameService(again, told) {
			t.Fatalf("%v: the answer hangs on an argument's memory", c)
		}
	}
}

// textsOf are the lists of bytes of an answer.
func textsOf(r impl.ServiceReport) [][]byte {
	var texts [][]byte
	for _, call := range r.Calls {
		for _, answer := range call.Items {
			texts = append(texts, answer.Text)
		}
	}
	return texts
}

func TestP14ListsOfAReportShareNothing(t *testing.T) {
	r := rand.New(rand.NewSource(146))
	texts := 0
	for range 200 {
		c, calls, picks := someService(r)
		calls = append(calls, batch(printing(0, lowWord(0)), printing(0, lowWord(0x7f800000)), printing(0, lowWord(0x7f800000)), printing(0, lowWord(0x7fc00000))))
		report := impl.RunService(c, calls, picks)
		for i, text := range textsOf(report) {
			spill(text, byte(i))
		}
		for i, text := range textsOf(report) {
			texts += len(text)
			if spilt(text, slices.Repeat([]byte{byte(i)}, cap(text))) {
				t.Fatalf("%v %s: two texts share memory", c, briefly(calls))
			}
		}
		for i, call := range report.Calls {
			spill(call.Items, impl.ItemResult{Code: 100 + i})
		}
		for i, call := range report.Calls {
			for _, answer := range call.Items[:cap(call.Items)] {
				if answer.Code != 100+i {
					t.Fatalf("%v %s: two batches share memory", c, briefly(calls))
				}
			}
		}
		wantService(t, c, calls, picks)
	}
	if texts < 1000 {
		t.Error("too few texts:", texts)
	}
}

// A run begins with an empty cache, whatever ran ahead of it.
func TestP14RunsStandAlone(t *testing.T) {
	r := rand.New(rand.NewSource(147))
	for range 60 {
		c, calls, picks := someService(r)
		first := impl.RunService(c, calls, picks)
		impl.RunService(config(64, 8, 64), callsOf(homedItems(0, 1, 2, 3, 4, 5)), nil)
		impl.RunService(impl.ServiceConfig{}, calls, picks)
		if again := impl.RunService(c, calls, picks); !sameService(first, again) {
			t.Fatalf("%v %s: %s, then %s", c, briefly(calls), briefly(first), briefly(again))
		}
	}
}

// The same call answers alike however its goroutines run, beside other calls too.
func TestP14SameHoweverGoroutinesRun(t *testing.T) {
	defer runtime.GOMAXPROCS(runtime.GOMAXPROCS(0))
	r := rand.New(rand.NewSource(148))
	for n := range 24 {
		c, calls, picks := someService(r)
		c.Workers = 8
		items := make([]impl.Item, 40)
		for i := range items {
			items[i] = someItem(r, 9)
		}
		calls = append(calls, batch(items...))
		want, _ := runServiceMeant(c, calls, picks, 60000)
		runtime.GOMAXPROCS(1 + n%8)
		var running sync.WaitGroup
		reports := make([]impl.ServiceReport, 12)
		for i := range reports {
			running.Go(func() { reports[i] = impl.RunService(c, calls, picks) })
		}
		running.Wait()
		for _, got := range reports {
			if !sameService(got, want) {
				t.Fatalf("%v %s: %s, not %s", c, briefly(calls), briefly(got), briefly(want))
			}
		}
	}
}

// All goroutines of a call have ended when it answers; one that has told so may
// still be on its way out.
func TestP14NoGoroutineIsLeft(t *testing.T) {
	before := runtime.NumGoroutine()
	for range 50 {
		impl.RunService(config(2, 8, 64), callsOf(homedItems(0, 1, 2, 3, 4), batch(), homedItems(0)), nil)
		impl.RunScript([]byte("workers 8\nparse 32 1\ngo\nparse 64 2\n"))
	}
	for wait := 0; runtime.NumGoroutine() > before; wait++ {
		if wait == 200 {
			t.Fatalf("%d goroutines more than ahead of the runs", runtime.NumGoroutine()-before)
		}
		time.Sleep(10 * time.Millisecond)
	}
}
