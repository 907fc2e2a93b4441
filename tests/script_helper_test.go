package tests

import (
	"fmt"
	"math/rand"
	"regexp"
	"strconv"
	"strings"
	"testing"

	"loop.example/s01493/impl"
)

// meantScript is what the lines have asked for so far.
type meantScript struct {
	config  impl.ServiceConfig
	calls   []impl.Call
	picks   []int
	waiting []impl.Item
	unclear []int
}

// The lines that are clear, as patterns of the whole line, and what they do
// with what stands in the brackets.
var clearLines = []struct {
	pattern *regexp.Regexp
	do      func(m *meantScript, in []string)
}{
	{linePattern(`cache`, `I`, `I`), func(m *meantScript, in []string) {
		m.config.Cache = impl.CacheConfig{Shards: numberMeant(in[0]), Slots: numberMeant(in[1])}
	}},
	{linePattern(`workers`, `I`), func(m *meantScript, in []string) { m.config.Workers = numberMeant(in[0]) }},
	{linePattern(`width`, `I`), func(m *meantScript, in []string) { m.config.Width = numberMeant(in[0]) }},
	{regexp.MustCompile(`^ *picks((?: +-?[0-9]{1,9})*) *$`), func(m *meantScript, in []string) {
		for _, word := range strings.Fields(in[0]) {
			m.picks = append(m.picks, numberMeant(word))
		}
	}},
	{linePattern(`parse`, `F`, `T`), func(m *meantScript, in []string) {
		m.waiting = append(m.waiting, reading(formatMeant(in[0]), in[1]))
	}},
	{linePattern(`print`, `F`, `H`), func(m *meantScript, in []string) {
		digits := fmt.Sprintf("%032s", in[1])
		high, _ := strconv.ParseUint(digits[:16], 16, 64)
		low, _ := strconv.ParseUint(digits[16:], 16, 64)
		m.waiting = append(m.waiting, printing(formatMeant(in[0]), impl.Word{Hi: high, Lo: low}))
	}},
	{linePattern(`go`), func(m *meantScript, in []string) { m.callWaiting() }},
	{linePattern(`evict`, `I`, `I`), func(m *meantScript, in []string) {
		m.calls = append(m.calls, evict(impl.Key{K: numberMeant(in[0]), W: numberMeant(in[1])}))
	}},
	{linePattern(`flush`), func(m *meantScript, in []string) { m.calls = append(m.calls, flush()) }},
	{regexp.MustCompile(`^ *$`), func(m *meantScript, in []string) {}},
}

func linePattern(command string, words ...string) *regexp.Regexp {
	pattern := `^ *` + command
	for _, word := range words {
		pattern += ` +(` + map[string]string{"I": `-?[0-9]{1,9}`, "F": `32|64|80|128`, "T": `[^ ]+`, "H": `[0-9a-fA-F]{1,32}`}[word] + `)`
	}
	return regexp.MustCompile(pattern + ` *$`)
}

func numberMeant(word string) int {
	n, err := strconv.ParseInt(word, 10, 64)
	if err != nil {
		panic(err)
	}
	return int(n)
}

func formatMeant(word string) int {
	return map[string]int{"32": impl.Binary32, "64": impl.Binary64, "80": impl.Extended80, "128": impl.Binary128}[word]
}

func (m *meantScript) callWaiting() {
	m.calls = append(m.calls, batch(m.waiting...))
	m.waiting = nil
}

func readMeant(script string) *meantScript {
	m := &meantScript{config: impl.ServiceConfig{Cache: impl.CacheConfig{Shards: 2, Slots: 4}, Workers: 2, Width: 64}}
	lines := strings.Split(script, "\n")
	if lines[len(lines)-1] == "" {
		lines = lines[:len(lines)-1]
	}
	for i, line := range lines {
		if !m.line(line) {
			m.unclear = append(m.unclear, i+1)
		}
	}
	if len(m.waiting) > 0 {
		m.callWaiting()
	}
	return m
}

func (m *meantScript) line(line string) bool {
	for _, sort := range clearLines {
		if in := sort.pattern.FindStringSubmatch(line); in != nil {
			sort.do(m, in[1:])
			return true
		}
	}
	return false
}

// scriptMeant is promise 16: the report of the service for what the lines say.
func scriptMeant(script string) string {
	if len(script) > 20000 {
		return "? script\n"
	}
	m := readMeant(script)
	var told strings.Builder
	for _, line := range m.unclear {
		fmt.Fprintf(&told, "? %d\n", line)
	}
	r := impl.RunService(m.config, m.calls, m.picks)
	if !r.OK {
		return told.String() + "? service\n"
	}
	for i, call := range r.Calls {
		if call.Kind != impl.CallBatch {
			fmt.Fprintf(&told, "removed %d\n", call.Removed)
		}
		for j, answer := range call.Items {
			told.WriteString(itemMeant(m.calls[i].Items[j], answer))
		}
	}
	if !r.Done {
		told.WriteString("? steps\n")
	}
	fmt.Fprintf(&told, "steps %d fast %d slow %d hits %d made %d published %d evicted %d lost %d\n",
		r.Steps, r.Fast, r.Slow, r.Hits, r.Made, r.Published, r.Evicted, r.Lost)
	return told.String()
}

func itemMeant(item impl.Item, answer impl.ItemResult) string {
	if answer.Code != 0 {
		return fmt.Sprintf("error %d %d\n", answer.Code, answer.Offset)
	}
	if item.Print {
		return fmt.Sprintf("print %s\n", answer.Text)
	}
	return fmt.Sprintf("parse %0*x %d\n", layouts[item.F].Width/4, bigWord(answer.W), answer.Flags)
}

func wantScript(t *testing.T, script string, want string) {
	t.Helper()
	if got := string(impl.RunScript([]byte(script))); got != want {
		t.Errorf("%s: %s", quoted(script), parting(got, want))
	}
}

// wantTold holds a script against a text written out, and against the meant one.
func wantTold(t *testing.T, script string, want string) {
	t.Helper()
	wantScript(t, script, want)
	if meant := scriptMeant(script); meant != want {
		t.Errorf("%s: meant is %s", quoted(script), parting(meant, want))
	}
}

func quoted(text string) string { return fmt.Sprintf("%.300q (%d bytes)", text, len(text)) }

// parting tells two texts from the line on in which they part.
func parting(got string, want string) string {
	line := 0
	for i := 0; i < min(len(got), len(want)) && got[i] == want[i]; i++ {
		if got[i] == '\n' {
			line = i + 1
		}
	}
	return "from byte " + strconv.Itoa(line) + " on\n" + quoted(got[line:]) + ", not\n" + quoted(want[line:])
}

// nothing is the last line of a run without steps.
const nothing = "steps 0 fast 0 slow 0 hits 0 made 0 published 0 evicted 0 lost 0\n"

// someWords fits each place of a line, more or less.
var someWords = []string{
	"0", "1", "2", "4", "8", "-1", "64", "128", "32", "80", "16", "-0", "007", "+1", "", "-", "1x", "123456789", "1234567890", "-123456789", "--1",
	"0.1", "1e3", "-inf", "nan", "x", "7e-9999", "3f800000", "FFFF", "ffff0000000000000000000000000000", "00000000000000000000000000000000a", "g1", "go", "Go", "32 ", "\t", "1\t",
}

var someCommands = []string{
	"cache", "workers", "width", "picks", "parse", "parse", "parse", "parse", "print", "print", "go", "go", "evict", "flush", "flush", "", "Flush", "parses", "\tgo", "go\r",
}

// wordsBehind is how many words fit behind a command.
var wordsBehind = map[string]int{"cache": 2, "workers": 1, "width": 1, "picks": 3, "parse": 2, "print": 2, "evict": 2}

func someScript(r *rand.Rand) string {
	var script strings.Builder
	for range r.Intn(30) {
		command := someCommands[r.Intn(len(someCommands))]
		words := []string{command}
		n := wordsBehind[command]
		if r.Intn(8) == 0 {
			n = r.Intn(4)
		}
		for range n {
			words = append(words, someWords[r.Intn(len(someWords))])
		}
		if len(words) > 1 && r.Intn(6) > 0 {
			likelyWords(r, words)
		}
		script.WriteString(strings.Repeat(" ", r.Intn(3)/2) + strings.Join(words, strings.Repeat(" ", 1+r.Intn(5)/4)) + strings.Repeat(" ", r.Intn(3)/2) + "\n")
	}
	text := script.String()
	return text[:len(text)-min(len(text), r.Intn(2))]
}

// likelyWords puts words in place that fit, most of them such as let the
// service run.
func likelyWords(r *rand.Rand, words []string) {
	small := func() string { return strconv.Itoa(1 + r.Intn(8)) }
	for i := range words[1:] {
		words[1+i] = small()
	}
	switch words[0] {
	case "parse":
		words[1] = []string{"32", "64", "80", "128"}[r.Intn(4)]
		words[len(words)-1] = []string{small() + "e" + small(), small(), "0." + small(), "inf", someWords[21+r.Intn(6)]}[r.Intn(5)]
	case "print":
		words[1] = []string{"32", "64", "80", "128"}[r.Intn(4)]
		words[len(words)-1] = strconv.FormatUint(r.Uint64()>>r.Intn(60), 16)
	case "evict":
		words[len(words)-1] = "64"
	}
}
