package tests

import (
	"bytes"
	"math"
	"math/rand"
	"reflect"
	"slices"
	"strconv"
	"testing"

	"loop.example/s01493/impl"
)

// The edges of a service's run, as the meant one meets them.
const (
	metPrinted     = "a word printed"
	metNotPrinted  = "a bad word"
	metNoFormat    = "an item of no format"
	metScanError   = "a scan with an error"
	metNotFinite   = "infinite or not a number"
	metZero        = "a zero"
	metFarPower    = "a key that is not good"
	metSure        = "a fast item"
	metUnsure      = "a slow item behind a search"
	metIdle        = "more workers than items"
	metNoItems     = "a batch without items"
	metOneKey      = "two workers that search for one key"
	metEvictNone   = "evict of a key that is not there"
	metEvictOnce   = "evict of a key that stands once"
	metEvictTwice  = "evict of a key that stands in two slots"
	metFlushNone   = "flush of an empty cache"
	metFlushMany   = "flush of several slots"
	metHandAway    = "slots emptied with a hand that is not at 0"
	metPicksEnd    = "picks that end in the midst of a batch"
	metPicksBridge = "picks that end between two batches"
)

var allServiceMet = []string{
	metPrinted, metNotPrinted, metNoFormat, metScanError, metNotFinite, metZero, metFarPower, metSure, metUnsure, metIdle, metNoItems,
	metOneKey, metEvictNone, metEvictOnce, metEvictTwice, metFlushNone, metFlushMany, metHandAway, metPicksEnd, metPicksBridge,
	metHitAtOnce, metHitBehind, metMarkTaken, metByHand, metEviction, metLost, metTwice, metBelowZero,
}

// meantWorker is where one worker stands with the first of its items.
type meantWorker struct {
	items  []int
	phase  string
	key    impl.Key
	search meantSearch
}

// meantService is chapter 7 in its plainest form: each item is answered in the
// step that says so, over the meant cache.
type meantService struct {
	*meantCache
	config  impl.ServiceConfig
	picks   []int
	limit   int
	turns   int
	report  impl.ServiceReport
	workers []meantWorker
	answers []impl.ItemResult
}

// runServiceMeant runs at most limit steps, and tells the edges that were met.
func runServiceMeant(c impl.ServiceConfig, calls []impl.Call, picks []int, limit int) (impl.ServiceReport, map[string]bool) {
	m := &meantService{meantCache: newMeantCache(c.Cache, 0), config: c, picks: picks, limit: limit}
	m.report = impl.ServiceReport{OK: true, Done: true}
	for _, call := range calls {
		result := impl.CallResult{Kind: call.Kind}
		switch call.Kind {
		case impl.CallBatch:
			m.report.Done = m.batch(call.Items)
			result.Items = m.answers
		case impl.CallEvict:
			result.Removed = m.evict(call.Key)
		case impl.CallFlush:
			result.Removed = m.flush()
		}
		if !m.report.Done {
			break
		}
		m.report.Calls = append(m.report.Calls, result)
	}
	m.tellSlots()
	in := m.meantCache.report
	m.report.Hits, m.report.Made, m.report.Published, m.report.Evicted, m.report.Lost = in.Hits, in.Made, in.Published, in.Evicted, in.Lost
	m.report.Slots = in.Slots
	m.tellCounts()
	return m.report, m.met
}

func (m *meantService) meet(what string, really bool) { m.met[what] = m.met[what] || really }

func (m *meantService) batch(items []impl.Item) bool {
	m.workers = make([]meantWorker, m.config.Workers)
	m.answers = make([]impl.ItemResult, len(items))
	for i := range items {
		m.workers[i%m.config.Workers].items = append(m.workers[i%m.config.Workers].items, i)
	}
	m.meet(metNoItems, len(items) == 0)
	m.meet(metIdle, len(items) > 0 && len(items) < m.config.Workers)
	m.meet(metPicksBridge, len(items) > 0 && len(m.picks) > 0 && m.report.Steps == len(m.picks))
	for first := m.report.Steps; ; m.report.Steps++ {
		var live []int
		for w := range m.workers {
			if len(m.workers[w].items) > 0 {
				live = append(live, w)
			}
		}
		if len(live) == 0 {
			return true
		}
		if m.report.Steps == m.limit {
			return false
		}
		m.meet(metPicksEnd, len(m.picks) > 0 && m.report.Steps == len(m.picks) && m.report.Steps > first)
		w := 0
		if m.report.Steps < len(m.picks) {
			w = live[m.modulo(m.picks[m.report.Steps], len(live))]
		} else {
			w = live[m.turns%len(live)]
			m.turns++
		}
		m.work(&m.workers[w], items)
	}
}

func (m *meantService) work(w *meantWorker, items []impl.Item) {
	item := items[w.items[0]]
	switch w.phase {
	case "":
		m.begin(w, item)
	case "search":
		if m.step(&w.search, w.key) != impl.OutNone {
			w.phase = "finish"
		}
	case "finish":
		if impl.ParseFast(item.F, item.Text, m.config.Width).Sure {
			m.meet(metSure, true)
			m.report.Fast++
		} else {
			m.meet(metUnsure, true)
			m.report.Slow++
		}
		m.answer(w, item)
	}
}

func (m *meantService) begin(w *meantWorker, item impl.Item) {
	scan := impl.ScanDecimal(item.Text)
	known := item.F >= 0 && item.F <= 3
	switch {
	case item.Print:
		m.meet(metPrinted, known && impl.PrintBits(item.F, item.W).Code == 0)
		m.meet(metNotPrinted, known && impl.PrintBits(item.F, item.W).Code != 0)
	case !known:
		m.meet(metNoFormat, true)
	case scan.Code != 0:
		m.meet(metScanError, true)
	case scan.D.Kind != impl.KindFinite:
		m.meet(metNotFinite, true)
	case len(scan.D.Digits) == 0:
		m.meet(metZero, true)
	default:
		k := scan.D.Exp
		if len(scan.D.Digits) > 19 {
			k += len(scan.D.Digits) - 19
		}
		if k >= -5200 && k <= 5200 {
			w.phase, w.key, w.search = "search", impl.Key{K: k, W: m.config.Width}, meantSearch{}
			m.meetOneKey(w)
			return
		}
		m.meet(metFarPower, true)
		m.report.Slow++
	}
	m.answer(w, item)
}

func (m *meantService) meetOneKey(w *meantWorker) {
	for i := range m.workers {
		other := &m.workers[i]
		m.meet(metOneKey, other != w && other.phase == "search" && other.key == w.key)
	}
}

func (m *meantService) answer(w *meantWorker, item impl.Item) {
	m.answers[w.items[0]] = answerMeant(item)
	w.items, w.phase = w.items[1:], ""
}

// answerMeant is promise 14: what the two conversions answer.
func answerMeant(item impl.Item) impl.ItemResult {
	if item.Print {
		p := impl.PrintBits(item.F, item.W)
		return impl.ItemResult{Text: p.Text, Code: p.Code}
	}
	p := impl.ParseExact(item.F, item.Text)
	return impl.ItemResult{W: p.W, Code: p.Code, Offset: p.Offset, Flags: p.Flags}
}

func (m *meantService) evict(key impl.Key) int {
	removed := m.emptied(func(i int) bool {
		return i/m.shape.Slots == shardMeant(m.shape, key) && m.slots[i].key == key
	})
	m.meet([]string{metEvictNone, metEvictOnce, metEvictTwice}[min(removed, 2)], true)
	return removed
}

func (m *meantService) flush() int {
	removed := m.emptied(func(int) bool { return true })
	m.meet(metFlushNone, removed == 0)
	m.meet(metFlushMany, removed > 1)
	return removed
}

func (m *meantService) emptied(unwanted func(i int) bool) int {
	removed := 0
	for i := range m.slots {
		if m.slots[i].full && unwanted(i) {
			m.slots[i] = meantSlot{stamp: m.slots[i].stamp + 1}
			m.meet(metHandAway, m.hands[i/m.shape.Slots] > 0)
			removed++
		}
	}
	return removed
}

func (m *meantService) tellCounts() {
	for code := range 5 {
		n := 0
		for _, call := range m.report.Calls {
			for _, answer := range call.Items {
				if answer.Code == code {
					n++
				}
			}
		}
		if n > 0 {
			m.report.Counts = append(m.report.Counts, impl.Count{Code: code, N: n})
		}
	}
}

// plainService takes nil lists and empty ones for the same.
func plainService(r impl.ServiceReport) impl.ServiceReport {
	r.Calls = append([]impl.CallResult{}, r.Calls...)
	for i := range r.Calls {
		r.Calls[i].Items = append([]impl.ItemResult{}, r.Calls[i].Items...)
		for j := range r.Calls[i].Items {
			r.Calls[i].Items[j].Text = append([]byte{}, r.Calls[i].Items[j].Text...)
		}
	}
	r.Counts = append([]impl.Count{}, r.Counts...)
	r.Slots = append([]impl.SlotView{}, r.Slots...)
	return r
}

func sameService(a impl.ServiceReport, b impl.ServiceReport) bool {
	return reflect.DeepEqual(plainService(a), plainService(b))
}

// wantService holds a run against the meant one and the promises, and tells the
// edges that were met.
func wantService(t *testing.T, c impl.ServiceConfig, calls []impl.Call, picks []int) map[string]bool {
	t.Helper()
	want, met := runServiceMeant(c, calls, picks, 60000)
	got := impl.RunService(c, calls, picks)
	if !sameService(got, want) {
		t.Fatalf("%v %s %s:\n%s, not\n%s", c, briefly(calls), briefly(picks), briefly(got), briefly(want))
	}
	wantPromises14And15(t, c, calls, got)
	return met
}

// wantPromises14And15 asks for the promises' words without a second run.
func wantPromises14And15(t *testing.T, c impl.ServiceConfig, calls []impl.Call, r impl.ServiceReport) {
	t.Helper()
	items, rounded, counted := 0, 0, 0
	for i, result := range r.Calls {
		if result.Kind != calls[i].Kind {
			t.Fatalf("call %d: kind %d, not %d", i, result.Kind, calls[i].Kind)
		}
		if result.Kind != impl.CallBatch {
			continue
		}
		wantAnswers(t, calls[i].Items, result.Items)
		items += len(calls[i].Items)
		for _, item := range calls[i].Items {
			if isRounded(item) {
				rounded++
			}
		}
	}
	for i, count := range r.Counts {
		counted += count.N
		if count.N < 1 || i > 0 && r.Counts[i-1].Code >= count.Code {
			t.Errorf("counts %v", r.Counts)
		}
	}
	if counted != items {
		t.Errorf("%v of %d items", r.Counts, items)
	}
	if r.Done && (len(r.Calls) != len(calls) || r.Fast+r.Slow != rounded) {
		t.Errorf("%d of %d calls, %d fast, %d slow, %d rounded", len(r.Calls), len(calls), r.Fast, r.Slow, rounded)
	}
	if !r.Done && (len(r.Calls) >= len(calls) || r.Steps != 60000) {
		t.Errorf("cut off: %d of %d calls, %d steps", len(r.Calls), len(calls), r.Steps)
	}
	if len(r.Slots) > 0 {
		wantShards(t, c.Cache, r.Slots)
	}
}

func wantAnswers(t *testing.T, items []impl.Item, answers []impl.ItemResult) {
	t.Helper()
	if len(items) != len(answers) {
		t.Fatalf("%d items, %d answers", len(items), len(answers))
	}
	for i, got := range answers {
		want := answerMeant(items[i])
		if !bytes.Equal(got.Text, want.Text) || got.W != want.W || got.Code != want.Code || got.Offset != want.Offset || got.Flags != want.Flags {
			t.Errorf("%s: %v, not %v", briefly(items[i]), got, want)
		}
	}
}

// isRounded tells of an item to be read that its decimal is finite and not zero
// and its format known.
func isRounded(item impl.Item) bool {
	d := scanMeant(string(item.Text)).D
	return !item.Print && item.F >= 0 && item.F <= 3 && d.Kind == impl.KindFinite && len(d.Digits) > 0
}

func reading(f int, text string) impl.Item { return impl.Item{F: f, Text: []byte(text)} }

func printing(f int, w impl.Word) impl.Item { return impl.Item{Print: true, F: f, W: w} }

func batch(items ...impl.Item) impl.Call { return impl.Call{Kind: impl.CallBatch, Items: items} }

func evict(key impl.Key) impl.Call { return impl.Call{Kind: impl.CallEvict, Key: key} }

func flush() impl.Call { return impl.Call{Kind: impl.CallFlush} }

func callsOf(calls ...impl.Call) []impl.Call { return calls }

// someItem is of any sort; its keys are few, so that searches meet each other.
func someItem(r *rand.Rand, kinds int) impl.Item {
	f := r.Intn(4)
	if r.Intn(12) == 0 {
		f = noFormats[r.Intn(len(noFormats))]
	}
	switch r.Intn(12) {
	case 0:
		return printing(f, someWord(r, layouts[r.Intn(4)]))
	case 1:
		return printing(f, impl.Word{Lo: r.Uint64() >> r.Intn(64)})
	case 2:
		return reading(f, wrongTexts[r.Intn(len(wrongTexts))])
	case 3:
		return reading(f, []string{"inf", "-Infinity", "nan", "-NAN", "0", "-0.00e7", "1e5201", "-3e-5201", "7e99999999"}[r.Intn(9)])
	case 4:
		return reading(f, someText(r))
	case 5:
		return reading(f, "1234567890123456789"+strconv.Itoa(1+r.Intn(99999))+"e"+strconv.Itoa(r.Intn(kinds)))
	}
	return reading(f, strconv.Itoa(1+10*r.Intn(1000))+"e"+strconv.Itoa(r.Intn(kinds)-kinds/2))
}

// someService is a run of few steps with calls of each kind.
func someService(r *rand.Rand) (impl.ServiceConfig, []impl.Call, []int) {
	c := impl.ServiceConfig{Cache: impl.CacheConfig{Shards: 1 + r.Intn(3), Slots: 1 + r.Intn(4)}, Workers: 1 + r.Intn(8), Width: 1 + r.Intn(128)}
	kinds := 1 + r.Intn(3*c.Cache.Slots)
	calls := make([]impl.Call, r.Intn(9))
	for i := range calls {
		calls[i] = someCall(r, kinds, c.Width)
	}
	picks := make([]int, r.Intn(2)*r.Intn(400))
	for i := range picks {
		picks[i] = int(r.Uint64())
		if r.Intn(2) == 0 {
			picks[i] = []int{0, 1, -1, 7, math.MinInt, math.MaxInt}[r.Intn(6)]
		}
		if i > 0 && r.Intn(3) > 0 {
			picks[i] = picks[i-1]
		}
	}
	return c, calls, picks
}

func someCall(r *rand.Rand, kinds int, width int) impl.Call {
	key := impl.Key{K: r.Intn(kinds) - kinds/2, W: width}
	switch r.Intn(5) {
	case 0:
		return evict(key)
	case 1:
		return flush()
	}
	items := make([]impl.Item, r.Intn(2)*r.Intn(14)+r.Intn(3))
	for i := range items {
		items[i] = someItem(r, kinds)
	}
	if r.Intn(4) == 0 {
		items = slices.Repeat([]impl.Item{reading(r.Intn(4), "3e"+strconv.Itoa(key.K))}, r.Intn(9))
	}
	return batch(items...)
}
