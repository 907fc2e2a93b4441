package tests

import (
	"fmt"
	"math/rand"
	"reflect"
	"slices"
	"testing"

	"loop.example/s01493/impl"
)

// The edges of a run, as the meant cache meets them.
const (
	metHitAtOnce    = "a hit at the home"
	metHitBehind    = "a hit behind other slots"
	metMake         = "every slot passed"
	metEmptyHome    = "an empty home picked"
	metEmptyBehind  = "an empty slot picked behind full ones"
	metMarkTaken    = "a mark taken away"
	metHandRound    = "the hand from the last slot to the first"
	metOnceAround   = "the hand around every slot of a shard"
	metByHand       = "a slot picked by the hand"
	metEviction     = "a key evicted"
	metLost         = "a lost swap"
	metLostThenHit  = "a hit behind a lost swap"
	metLostThenMade = "a key published behind a lost swap"
	metTwice        = "one key in two slots"
	metAgain        = "a key evicted and asked for again"
	metTurn         = "a turn behind picks"
	metBelowZero    = "a pick below zero"
)

var allMet = []string{
	metHitAtOnce, metHitBehind, metMake, metEmptyHome, metEmptyBehind, metMarkTaken, metHandRound, metOnceAround, metByHand,
	metEviction, metLost, metLostThenHit, metLostThenMade, metTwice, metAgain, metTurn, metBelowZero,
}

type meantSlot struct {
	full  bool
	key   impl.Key
	mark  bool
	stamp int
}

// meantSearch is where one task stands with its present key.
type meantSearch struct {
	phase string
	i     int
	slot  int
	stamp int
	swept int
	lost  bool
}

// meantCache is chapter 5 in its plainest form: one step after another over
// slots in one row, the report filled as it goes.
type meantCache struct {
	shape    impl.CacheConfig
	slots    []meantSlot
	hands    []int
	searches []meantSearch
	evicted  map[impl.Key]bool
	met      map[string]bool
	report   impl.CacheReport
}

func shardMeant(c impl.CacheConfig, k impl.Key) int { return ((k.K+5200)*7 + k.W) % c.Shards }

func homeMeant(c impl.CacheConfig, k impl.Key) int { return (k.K + 5200 + 3*k.W) % c.Slots }

func newMeantCache(c impl.CacheConfig, tasks int) *meantCache {
	return &meantCache{
		shape: c, slots: make([]meantSlot, c.Shards*c.Slots), hands: make([]int, c.Shards),
		searches: make([]meantSearch, tasks), evicted: map[impl.Key]bool{}, met: map[string]bool{},
	}
}

// runMeant runs at most limit steps, and tells the edges that were met.
func runMeant(c impl.CacheConfig, tasks [][]impl.Key, picks []int, limit int) (impl.CacheReport, map[string]bool) {
	m := newMeantCache(c, len(tasks))
	m.report = impl.CacheReport{OK: true, TaskSteps: make([]int, len(tasks)), Outcomes: make([][]int, len(tasks))}
	left := make([]int, len(tasks))
	for t, keys := range tasks {
		m.report.Outcomes[t] = make([]int, len(keys))
		left[t] = len(keys)
	}
	for turns := 0; ; m.report.Steps++ {
		var live []int
		for t := range tasks {
			if left[t] > 0 {
				live = append(live, t)
			}
		}
		m.report.Done = len(live) == 0
		if m.report.Done || m.report.Steps == limit {
			break
		}
		t := 0
		if m.report.Steps < len(picks) {
			t = live[m.modulo(picks[m.report.Steps], len(live))]
		} else {
			m.met[metTurn] = m.met[metTurn] || len(picks) > 0
			t = live[turns%len(live)]
			turns++
		}
		m.report.TaskSteps[t]++
		at := len(tasks[t]) - left[t]
		if out := m.step(&m.searches[t], tasks[t][at]); out != 0 {
			m.report.Outcomes[t][at] = out
			left[t]--
			m.searches[t] = meantSearch{}
		}
	}
	m.tellSlots()
	return m.report, m.met
}

func (m *meantCache) modulo(pick int, n int) int {
	if pick < 0 {
		m.met[metBelowZero] = true
		return n - 1 - (-(pick + 1))%n
	}
	return pick % n
}

func (m *meantCache) step(s *meantSearch, key impl.Key) int {
	n := m.shape.Slots
	first := shardMeant(m.shape, key) * n
	around := first + (homeMeant(m.shape, key)+s.i)%n
	switch s.phase {
	case "", "look":
		if m.slots[around].full && m.slots[around].key == key {
			m.slots[around].mark = true
			m.meetHit(s)
			m.report.Hits++
			return impl.OutHit
		}
		s.phase, s.i = "look", s.i+1
		if s.i == n {
			s.phase = "make"
		}
	case "make":
		m.met[metMake] = true
		m.report.Made++
		s.phase, s.i, s.swept = "pick", 0, 0
	case "pick":
		if s.i < n {
			m.pickEmpty(s, around)
		} else {
			m.pickByHand(s, first)
		}
	case "swap":
		return m.swap(s, key)
	}
	return impl.OutNone
}

func (m *meantCache) meetHit(s *meantSearch) {
	m.met[metHitAtOnce] = m.met[metHitAtOnce] || s.i == 0
	m.met[metHitBehind] = m.met[metHitBehind] || s.i > 0
	m.met[metLostThenHit] = m.met[metLostThenHit] || s.lost
}

func (m *meantCache) pickEmpty(s *meantSearch, around int) {
	if m.slots[around].full {
		s.i++
		return
	}
	m.met[metEmptyHome] = m.met[metEmptyHome] || s.i == 0
	m.met[metEmptyBehind] = m.met[metEmptyBehind] || s.i > 0
	s.phase, s.slot, s.stamp = "swap", around, m.slots[around].stamp
}

func (m *meantCache) pickByHand(s *meantSearch, first int) {
	hand := &m.hands[first/m.shape.Slots]
	slot := first + *hand
	*hand++
	if *hand == m.shape.Slots {
		m.met[metHandRound] = true
		*hand = 0
	}
	if m.slots[slot].mark {
		m.met[metMarkTaken] = true
		m.slots[slot].mark = false
		s.swept++
		return
	}
	m.met[metByHand] = true
	m.met[metOnceAround] = m.met[metOnceAround] || s.swept >= m.shape.Slots
	s.phase, s.slot, s.stamp = "swap", slot, m.slots[slot].stamp
}

func (m *meantCache) swap(s *meantSearch, key impl.Key) int {
	slot := &m.slots[s.slot]
	if slot.stamp != s.stamp {
		m.met[metLost] = true
		m.report.Lost++
		*s = meantSearch{lost: true}
		return impl.OutNone
	}
	m.met[metAgain] = m.met[metAgain] || m.evicted[key]
	m.met[metLostThenMade] = m.met[metLostThenMade] || s.lost
	for _, other := range m.slots {
		m.met[metTwice] = m.met[metTwice] || other.full && other.key == key
	}
	if slot.full {
		m.met[metEviction] = true
		m.evicted[slot.key] = true
		m.report.Evicted++
	}
	slot.full, slot.key, slot.mark = true, key, false
	slot.stamp++
	m.report.Published++
	return impl.OutMade
}

func (m *meantCache) tellSlots() {
	for i, slot := range m.slots {
		if slot.full {
			m.report.Slots = append(m.report.Slots, impl.SlotView{Shard: i / m.shape.Slots, Slot: i % m.shape.Slots, Key: slot.key, Mark: slot.mark})
		}
	}
}

// plainReport takes nil lists and empty ones for the same.
func plainReport(r impl.CacheReport) impl.CacheReport {
	r.TaskSteps = append([]int{}, r.TaskSteps...)
	r.Slots = append([]impl.SlotView{}, r.Slots...)
	r.Outcomes = append([][]int{}, r.Outcomes...)
	for t, outcomes := range r.Outcomes {
		r.Outcomes[t] = append([]int{}, outcomes...)
	}
	return r
}

func sameReport(a impl.CacheReport, b impl.CacheReport) bool {
	return reflect.DeepEqual(plainReport(a), plainReport(b))
}

// briefly tells a run without filling a screen with it.
func briefly(x any) string {
	text := fmt.Sprintf("%+v", x)
	if len(text) > 1500 {
		text = text[:1500] + " .."
	}
	return text
}

// wantRun holds a run against the meant one and the promise, and tells the
// edges that were met.
func wantRun(t *testing.T, c impl.CacheConfig, tasks [][]impl.Key, picks []int) map[string]bool {
	t.Helper()
	want, met := runMeant(c, tasks, picks, 40000)
	got := impl.RunCache(c, tasks, picks)
	if !sameReport(got, want) {
		t.Fatalf("%v %s %s:\n%s, not\n%s", c, briefly(tasks), briefly(picks), briefly(got), briefly(want))
	}
	wantPromise9(t, c, tasks, got)
	return met
}

// wantPromise9 asks for the promise's words, and for what the counts owe one
// another, without a second run.
func wantPromise9(t *testing.T, c impl.CacheConfig, tasks [][]impl.Key, r impl.CacheReport) {
	t.Helper()
	keys, steps, outs := 0, 0, [3]int{}
	for i, row := range tasks {
		keys += len(row)
		steps += r.TaskSteps[i]
		for _, out := range r.Outcomes[i] {
			outs[out]++
		}
	}
	if r.Steps != steps {
		t.Errorf("%d steps, and %v of the tasks", r.Steps, r.TaskSteps)
	}
	if outs[impl.OutHit] != r.Hits || outs[impl.OutMade] != r.Published || outs[0]+outs[1]+outs[2] != keys {
		t.Errorf("outcomes %v of %d keys: %s", outs, keys, briefly(r))
	}
	if r.Done && (r.Hits+r.Published != keys || r.Made != r.Published+r.Lost) {
		t.Errorf("%d keys: %s", keys, briefly(r))
	}
	if !r.Done && (r.Steps != 40000 || outs[impl.OutNone] == 0) {
		t.Errorf("cut off: %s", briefly(r))
	}
	if r.Published-r.Evicted != len(r.Slots) {
		t.Errorf("%d published, %d evicted, %d left", r.Published, r.Evicted, len(r.Slots))
	}
	wantShards(t, c, r.Slots)
}

func wantShards(t *testing.T, c impl.CacheConfig, views []impl.SlotView) {
	t.Helper()
	last, held := -1, make([]int, c.Shards)
	for _, v := range views {
		place := v.Shard*c.Slots + v.Slot
		if v.Slot < 0 || v.Slot >= c.Slots || place <= last || place >= c.Shards*c.Slots {
			t.Fatalf("%v: %s", c, briefly(views))
		}
		last = place
		held[v.Shard]++
		if v.Shard != impl.ShardOf(c, v.Key) {
			t.Errorf("%v: %v", c, v)
		}
	}
	if slices.Max(held) > c.Slots {
		t.Errorf("%v: shards of %v keys", c, held)
	}
}

// homed is the j-th of the keys that have one shard and one home, in any shape
// whose numbers are powers of two.
func homed(j int) impl.Key { return impl.Key{K: -5200 + 64*j, W: 64} }

// homedRow is the row of the keys from the first on, each once.
func homedRow(first int, n int) []impl.Key {
	row := make([]impl.Key, n)
	for i := range row {
		row[i] = homed(first + i)
	}
	return row
}

// someRun is a run over few keys, so that searches meet each other.
func someRun(r *rand.Rand) (impl.CacheConfig, [][]impl.Key, []int) {
	c := impl.CacheConfig{Shards: 1 + r.Intn(3), Slots: 1 + r.Intn(5)}
	kinds := 1 + r.Intn(4*c.Slots)
	tasks := make([][]impl.Key, r.Intn(9))
	for t := range tasks {
		tasks[t] = make([]impl.Key, r.Intn(12))
		for i := range tasks[t] {
			tasks[t][i] = impl.Key{K: r.Intn(kinds) - kinds/2, W: 63 + r.Intn(2)}
		}
	}
	picks := make([]int, r.Intn(300))
	for i := range picks {
		picks[i] = int(r.Uint64())
		if r.Intn(2) == 0 {
			picks[i] = r.Intn(21) - 10
		}
		if r.Intn(2) == 0 && i > 0 {
			picks[i] = picks[i-1]
		}
	}
	return c, tasks, picks
}
