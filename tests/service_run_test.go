package tests

import (
	"math/rand"
	"slices"
	"strconv"
	"strings"
	"testing"

	"loop.example/s01493/impl"
)

// config is a service over one shard.
func config(slots int, workers int, width int) impl.ServiceConfig {
	return impl.ServiceConfig{Cache: impl.CacheConfig{Shards: 1, Slots: slots}, Workers: workers, Width: width}
}

// homedText is a text whose key, with 64 bits, is homed(j).
func homedText(j int) string { return "1e" + strconv.Itoa(homed(j).K) }

// homedItem is rounded to zero, for a j below 80, and the fast way is sure of it.
func homedItem(j int) impl.Item { return reading(impl.Binary32, homedText(j)) }

func homedItems(numbers ...int) impl.Call {
	var items []impl.Item
	for _, j := range numbers {
		items = append(items, homedItem(j))
	}
	return batch(items...)
}

var tinyAnswer = impl.ItemResult{Flags: impl.FlagTiny}

func answered(answers ...impl.ItemResult) impl.CallResult {
	return impl.CallResult{Kind: impl.CallBatch, Items: answers}
}

func tiny(n int) impl.CallResult {
	return answered(slices.Repeat([]impl.ItemResult{tinyAnswer}, n)...)
}

func evicted(n int) impl.CallResult { return impl.CallResult{Kind: impl.CallEvict, Removed: n} }

func flushed(n int) impl.CallResult { return impl.CallResult{Kind: impl.CallFlush, Removed: n} }

// wantServed holds a run against a report written out, and against the meant one.
func wantServed(t *testing.T, c impl.ServiceConfig, calls []impl.Call, picks []int, want impl.ServiceReport) {
	t.Helper()
	want.OK, want.Done = true, true
	if got := impl.RunService(c, calls, picks); !sameService(got, want) {
		t.Errorf("%v %s %v:\n%+v, not\n%+v", c, briefly(calls), picks, got, want)
	}
	wantService(t, c, calls, picks)
}

func TestP14ServiceConstants(t *testing.T) {
	got := []int{impl.MaxWorkers, impl.MaxCalls, impl.MaxItems, impl.MaxServiceSteps, impl.MaxScript, impl.CallBatch, impl.CallEvict, impl.CallFlush}
	if want := []int{8, 30, 40, 60000, 20000, 0, 1, 2}; !slices.Equal(got, want) {
		t.Error(got)
	}
}

func TestP14NoCalls(t *testing.T) {
	for _, picks := range [][]int{nil, {}, {1, -1}, make([]int, 20000)} {
		wantServed(t, config(2, 2, 64), nil, picks, impl.ServiceReport{})
		wantServed(t, config(2, 2, 64), callsOf(), picks, impl.ServiceReport{})
		wantServed(t, config(2, 2, 64), callsOf(batch(), flush(), evict(keyA)), picks, impl.ServiceReport{
			Calls: []impl.CallResult{answered(), flushed(0), evicted(0)},
		})
	}
}

// What needs no power of ten is done in its first step and counts for neither way.
func TestP15ItemsOfOneStep(t *testing.T) {
	items := map[string]struct {
		item impl.Item
		want impl.ItemResult
	}{
		"printed":     {printing(impl.Binary32, lowWord(0x3dcccccd)), impl.ItemResult{Text: []byte("0.1")}},
		"not printed": {printing(impl.Binary32, lowWord(1<<32)), impl.ItemResult{Code: impl.ErrEncoding}},
		"print of no format": {
			impl.Item{Print: true, F: 4, Text: []byte("1"), W: lowWord(1)}, impl.ItemResult{Code: impl.ErrFormat},
		},
		"print with a text":   {impl.Item{Print: true, F: 1, Text: []byte("7"), W: lowWord(0)}, impl.ItemResult{Text: []byte("0")}},
		"printed infinite":    {printing(impl.Binary64, lowWord(0xfff<<52)), impl.ItemResult{Text: []byte("-inf")}},
		"printed not-number":  {printing(impl.Binary64, lowWord(most)), impl.ItemResult{Text: []byte("NaN")}},
		"read of no format":   {reading(-1, "1"), impl.ItemResult{Code: impl.ErrFormat}},
		"wrong, of no format": {reading(4, "x"), impl.ItemResult{Code: impl.ErrFormat}},
		"wrong":               {reading(impl.Binary32, "12x"), impl.ItemResult{Code: impl.ErrSyntax, Offset: 2}},
		"empty":               {reading(impl.Binary32, ""), impl.ItemResult{Code: impl.ErrSyntax}},
		"too long":            {reading(impl.Binary32, strings.Repeat("1", 801)), impl.ItemResult{Code: impl.ErrTooLong, Offset: 800}},
		"infinite":            {reading(impl.Binary32, "-inf"), impl.ItemResult{W: lowWord(0xff800000)}},
		"not a number":        {reading(impl.Binary32, "-nan"), impl.ItemResult{W: lowWord(0x7fc00000)}},
		"zero":                {reading(impl.Binary32, "0e9999"), impl.ItemResult{}},
		"zero with a minus":   {reading(impl.Binary32, "-.0"), impl.ItemResult{W: lowWord(0x80000000)}},
		"read with a word":    {impl.Item{F: 0, Text: []byte("0"), W: lowWord(5)}, impl.ItemResult{}},
	}
	for what, x := range items {
		for _, workers := range []int{1, 2, 8} {
			t.Run(what, func(t *testing.T) {
				wantServed(t, config(2, workers, 64), callsOf(batch(x.item), batch(x.item, x.item)), nil, impl.ServiceReport{
					Calls: []impl.CallResult{answered(x.want), answered(x.want, x.want)}, Counts: []impl.Count{{Code: x.want.Code, N: 3}}, Steps: 3,
				})
			})
		}
	}
}

// A power beyond the table: slow, in one step.
func TestP15KeysThatAreNotGood(t *testing.T) {
	for _, text := range []string{
		"1e5201", "-1e-5201", "10e5200", "0.1e-5200", "1e1000000", "1e-1000000", strings.Repeat("1", 20) + "e5200", strings.Repeat("1", 119) + "e-5301",
	} {
		want := answerMeant(reading(impl.Binary64, text))
		for _, width := range []int{1, 64, 128} {
			wantServed(t, config(2, 1, width), callsOf(batch(reading(impl.Binary64, text), reading(impl.Binary64, text))), nil, impl.ServiceReport{
				Calls: []impl.CallResult{answered(want, want)}, Counts: []impl.Count{{Code: 0, N: 2}}, Steps: 2, Slow: 2,
			})
		}
	}
}

// Begin, a search, Finish: the key of the search is that of ParseFast, with the
// cut digits counted.
func TestP15KeysOfItems(t *testing.T) {
	for text, k := range map[string]int{
		"1": 0, "-1e5200": 5200, "1e-5200": -5200, "100": 2, "0.25": -2, "1234567890123456789": 0, "12345678901234567891": 1,
		"0.12345678901234567891": -19, strings.Repeat("1", 20) + "e5199": 5200, strings.Repeat("1", 119) + "e-5300": -5200, "123456789012345678900": 2,
	} {
		for _, width := range []int{1, 64, 128} {
			item := reading(impl.Binary64, text)
			want := impl.ServiceReport{
				Calls: []impl.CallResult{answered(answerMeant(item))}, Counts: []impl.Count{{Code: 0, N: 1}}, Steps: 6, Made: 1, Published: 1,
				Slots: []impl.SlotView{{Key: impl.Key{K: k, W: width}}},
			}
			if impl.ParseFast(impl.Binary64, []byte(text), width).Sure {
				want.Fast = 1
			} else {
				want.Slow = 1
			}
			wantServed(t, config(1, 1, width), callsOf(batch(item)), nil, want)
		}
	}
}

func TestP15FastAndSlow(t *testing.T) {
	for _, x := range []struct {
		f, width, fast, slow int
		text                 string
	}{
		{impl.Binary32, 4, 0, 1, "0.1"}, {impl.Binary32, 64, 1, 0, "0.1"}, {impl.Binary128, 64, 0, 1, "0.1"}, {impl.Binary128, 128, 1, 0, "0.1"},
		{impl.Binary64, 64, 1, 0, "9007199254740993"}, {impl.Binary64, 64, 0, 1, "9007199254740993.0001"},
	} {
		c := config(1, 1, x.width)
		r := impl.RunService(c, callsOf(batch(reading(x.f, x.text))), nil)
		if r.Fast != x.fast || r.Slow != x.slow || r.Steps != 6 || r.Made != 1 {
			t.Errorf("%s with %d bits: %+v", x.text, x.width, r)
		}
		wantService(t, c, callsOf(batch(reading(x.f, x.text), reading(x.f, x.text)), flush(), batch(reading(x.f, x.text))), nil)
	}
}

// 7 steps where two slots are passed and the entry is made, 3 where it is found.
func TestP14OneWorker(t *testing.T) {
	wantServed(t, config(2, 1, 64), callsOf(homedItems(0, 0, 1), homedItems(1)), nil, impl.ServiceReport{
		Calls: []impl.CallResult{tiny(3), tiny(1)}, Counts: []impl.Count{{Code: 0, N: 4}},
		Steps: 7 + 3 + 8 + 4, Fast: 4, Hits: 2, Made: 2, Published: 2,
		Slots: []impl.SlotView{held(0, keyA, true), held(1, keyB, true)},
	})
}

// By turns the second worker loses its slot and then finds the key in it.
func TestP14TwoWorkersForOneKey(t *testing.T) {
	wantServed(t, config(2, 2, 64), callsOf(homedItems(0, 0)), nil, impl.ServiceReport{
		Calls: []impl.CallResult{tiny(2)}, Counts: []impl.Count{{Code: 0, N: 2}},
		Steps: 7 + 8, Fast: 2, Hits: 1, Made: 2, Published: 1, Lost: 1,
		Slots: []impl.SlotView{held(0, keyA, true)},
	})
	// More workers than items: the others take no steps.
	wantServed(t, config(2, 8, 64), callsOf(homedItems(0, 0)), nil, impl.ServiceReport{
		Calls: []impl.CallResult{tiny(2)}, Counts: []impl.Count{{Code: 0, N: 2}},
		Steps: 7 + 8, Fast: 2, Hits: 1, Made: 2, Published: 1, Lost: 1,
		Slots: []impl.SlotView{held(0, keyA, true)},
	})
}

// Items go to workers by turns, and a worker does its own in their order: with
// one after the other the second finds what the first has made.
func TestP14WhoDoesWhat(t *testing.T) {
	wantServed(t, config(4, 2, 64), callsOf(homedItems(0, 1, 2, 3)), slices.Repeat([]int{0}, 30), impl.ServiceReport{
		Calls: []impl.CallResult{tiny(4)}, Counts: []impl.Count{{Code: 0, N: 4}},
		Steps: 9 + 10 + 11 + 12, Fast: 4, Made: 4, Published: 4,
		Slots: []impl.SlotView{held(0, keyA, false), held(1, keyC, false), held(2, keyB, false), held(3, keyD, false)},
	})
	wantServed(t, config(4, 3, 64), callsOf(homedItems(0, 1, 2, 3)), slices.Repeat([]int{-1}, 50), impl.ServiceReport{
		Calls: []impl.CallResult{tiny(4)}, Counts: []impl.Count{{Code: 0, N: 4}},
		Steps: 9 + 10 + 11 + 12, Fast: 4, Made: 4, Published: 4,
		Slots: []impl.SlotView{held(0, keyC, false), held(1, keyB, false), held(2, keyA, false), held(3, keyD, false)},
	})
}

// The second worker passes both slots, the first then publishes, the second
// publishes too; its picks are 3 of the second, 7 of the first, the rest alone.
var (
	twicePicks = []int{1, 1, 1, 0, 0, 0, 0, 0, 0, 0, 4, 4, 4, 4, 4}
	twiceSteps = len(twicePicks)
)

func TestP14EvictOfAKey(t *testing.T) {
	report := impl.ServiceReport{
		Calls: []impl.CallResult{tiny(2), evicted(2)}, Counts: []impl.Count{{Code: 0, N: 2}}, Steps: twiceSteps, Fast: 2, Made: 2, Published: 2,
	}
	wantServed(t, config(2, 2, 64), callsOf(homedItems(0, 0), evict(keyA)), twicePicks, report)
	// Once it is gone there is nothing to be found.
	report.Calls = append(report.Calls, evicted(0))
	wantServed(t, config(2, 2, 64), callsOf(homedItems(0, 0), evict(keyA), evict(keyA)), twicePicks, report)
	// Other keys stay, whether they share the power, the width, the home or none.
	other := []impl.Call{homedItems(0, 0)}
	want := []impl.CallResult{tiny(2)}
	for _, key := range []impl.Key{keyB, {K: keyA.K, W: 63}, {K: keyA.K, W: 65}, {K: keyA.K + 1, W: 64}, {K: 5200, W: 128}, {K: -5200, W: 1}} {
		other, want = append(other, evict(key)), append(want, evicted(0))
	}
	report.Calls = want
	report.Slots = []impl.SlotView{held(0, keyA, false), held(1, keyA, false)}
	wantServed(t, config(2, 2, 64), other, twicePicks, report)
	// Of two keys one goes, from the slot where it stands, and its slot is the
	// next to be written.
	wantServed(t, config(2, 1, 64), callsOf(homedItems(0, 1), evict(keyA), homedItems(2)), nil, impl.ServiceReport{
		Calls: []impl.CallResult{tiny(2), evicted(1), tiny(1)}, Counts: []impl.Count{{Code: 0, N: 3}}, Steps: 7 + 8 + 7, Fast: 3, Made: 3, Published: 3,
		Slots: []impl.SlotView{held(0, keyC, false), held(1, keyB, false)},
	})
}

func TestP14FlushOfAllShards(t *testing.T) {
	c := impl.ServiceConfig{Cache: impl.CacheConfig{Shards: 2, Slots: 2}, Workers: 1, Width: 64}
	odd := func(j int) impl.Item { return reading(impl.Binary32, "1e"+strconv.Itoa(homed(j).K+1)) }
	calls := callsOf(batch(homedItem(0), homedItem(1), odd(0)), flush(), flush(), batch(odd(0)), flush())
	wantServed(t, c, calls, nil, impl.ServiceReport{
		Calls:  []impl.CallResult{tiny(3), flushed(3), flushed(0), tiny(1), flushed(1)},
		Counts: []impl.Count{{Code: 0, N: 4}}, Steps: 7 + 8 + 7 + 7, Fast: 4, Made: 4, Published: 4,
	})
	// Emptied slots are no evictions, and evict looks at the key's shard alone.
	wantServed(t, c, callsOf(batch(homedItem(0), odd(0)), evict(keyA), evict(impl.Key{K: keyA.K + 1, W: 64})), nil, impl.ServiceReport{
		Calls:  []impl.CallResult{tiny(2), evicted(1), evicted(1)},
		Counts: []impl.Count{{Code: 0, N: 2}}, Steps: 14, Fast: 2, Made: 2, Published: 2,
	})
}

// The third key moves the hand to slot 1; emptied slots leave it there, so that
// the next key without room takes slot 1.
func TestP14HandsStay(t *testing.T) {
	full := []impl.SlotView{held(0, keyA, false), held(1, keyD, false)}
	wantServed(t, config(2, 1, 64), callsOf(homedItems(0, 1, 2), flush(), homedItems(0, 1, 3)), nil, impl.ServiceReport{
		Calls: []impl.CallResult{tiny(3), flushed(2), tiny(3)}, Counts: []impl.Count{{Code: 0, N: 6}},
		Steps: 2 * (7 + 8 + 9), Fast: 6, Made: 6, Published: 6, Evicted: 2, Slots: full,
	})
	wantServed(t, config(2, 1, 64), callsOf(homedItems(0, 1, 2), evict(keyC), evict(keyB), homedItems(0, 1, 3)), nil, impl.ServiceReport{
		Calls: []impl.CallResult{tiny(3), evicted(1), evicted(1), tiny(3)}, Counts: []impl.Count{{Code: 0, N: 6}},
		Steps: 2 * (7 + 8 + 9), Fast: 6, Made: 6, Published: 6, Evicted: 2, Slots: full,
	})
}

// A slot that is emptied and written again has no mark: the hand takes it at
// once.
func TestP14MarksGo(t *testing.T) {
	for _, emptied := range []impl.Call{flush(), evict(keyA)} {
		result := impl.CallResult{Kind: emptied.Kind, Removed: 1}
		wantServed(t, config(1, 1, 64), callsOf(homedItems(0, 0), emptied, homedItems(0, 1)), nil, impl.ServiceReport{
			Calls: []impl.CallResult{tiny(2), result, tiny(2)}, Counts: []impl.Count{{Code: 0, N: 4}},
			Steps: 6 + 3 + 6 + 7, Fast: 4, Hits: 1, Made: 3, Published: 3, Evicted: 1,
			Slots: []impl.SlotView{held(0, keyB, false)},
		})
	}
}

// The codes are told in rising order, each that there is, over all batches.
func TestP15Counts(t *testing.T) {
	calls := callsOf(
		batch(reading(9, "1"), reading(0, "x"), printing(0, lowWord(1<<40)), reading(0, strings.Repeat("1", 900)), reading(0, "1")),
		flush(),
		batch(reading(9, "1"), printing(9, lowWord(1)), printing(2, lowWord(1<<63)), reading(1, "inf"), reading(1, "2")),
	)
	r := impl.RunService(config(3, 2, 64), calls, nil)
	if want := []impl.Count{{Code: 0, N: 3}, {Code: 1, N: 1}, {Code: 2, N: 1}, {Code: 3, N: 2}, {Code: 4, N: 3}}; !slices.Equal(r.Counts, want) {
		t.Error(r.Counts)
	}
	wantService(t, config(3, 2, 64), calls, nil)
}

func TestP14SomeRuns(t *testing.T) {
	r := rand.New(rand.NewSource(141))
	seen := map[string]int{}
	for range 2500 {
		c, calls, picks := someService(r)
		for what := range wantService(t, c, calls, picks) {
			seen[what]++
		}
	}
	for _, what := range allServiceMet {
		if seen[what] < 10 && what != metPicksBridge {
			t.Errorf("%s: in %d runs", what, seen[what])
		}
	}
}

// The answers of a batch are the same in every shape, with all numbers of
// workers, widths and picks, and with the cache emptied ahead of it or not.
func TestP14AnswersHangOnNothingElse(t *testing.T) {
	r := rand.New(rand.NewSource(142))
	items := make([]impl.Item, 40)
	for i := range items {
		items[i] = someItem(r, 6)
	}
	for range 150 {
		c := impl.ServiceConfig{
			Cache: impl.CacheConfig{Shards: 1 + r.Intn(16), Slots: 1 + r.Intn(64)}, Workers: 1 + r.Intn(8), Width: 1 + r.Intn(128),
		}
		picks := make([]int, r.Intn(3000))
		for i := range picks {
			picks[i] = int(r.Uint64())
		}
		calls := callsOf(batch(items...), batch(items...), evict(impl.Key{K: 1, W: c.Width}), batch(items...), flush(), batch(items...))
		report := impl.RunService(c, calls, picks)
		if !report.Done {
			t.Fatal(c, report.Steps)
		}
		wantPromises14And15(t, c, calls, report)
		wantService(t, c, calls, picks)
	}
}

// Full calls in any shape: more than the limit lets end, and less.
func TestP15GreatRuns(t *testing.T) {
	r := rand.New(rand.NewSource(143))
	done := 0
	for range 16 {
		c := impl.ServiceConfig{
			Cache: impl.CacheConfig{Shards: 1 + r.Intn(3), Slots: 1 + r.Intn(64)}, Workers: 1 + r.Intn(8), Width: 60 + r.Intn(69),
		}
		calls := make([]impl.Call, 30)
		for i := range calls {
			calls[i] = flush()
			if i%7 != 6 {
				calls[i] = batch(make([]impl.Item, 40)...)
			}
			for j := range calls[i].Items {
				calls[i].Items[j] = someItem(r, 400)
			}
		}
		picks := make([]int, r.Intn(20001))
		for i := range picks {
			picks[i] = int(r.Uint64())
		}
		wantService(t, c, calls, picks)
		if impl.RunService(c, calls, picks).Done {
			done++
		}
	}
	if done == 0 || done == 16 {
		t.Error("of 16 runs done:", done)
	}
}
