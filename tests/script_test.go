package tests

import (
	"math/rand"
	"slices"
	"strconv"
	"strings"
	"testing"

	"loop.example/s01493/impl"
)

func TestP16NoLines(t *testing.T) {
	for _, script := range []string{"", "\n", "\n\n\n", " ", "   \n  ", "  \n\n \n"} {
		wantTold(t, script, nothing)
	}
	if got := string(impl.RunScript(nil)); got != nothing {
		t.Errorf("%q", got)
	}
}

func TestP16LengthsOfScripts(t *testing.T) {
	wantTold(t, strings.Repeat(" ", 20000), nothing)
	wantTold(t, strings.Repeat(" ", 20001), "? script\n")
	wantTold(t, strings.Repeat("\n", 20000), nothing)
	wantTold(t, strings.Repeat("\n", 20001), "? script\n")
	wantTold(t, "x"+strings.Repeat(" ", 19998)+"x", "? 1\n"+nothing)
	wantTold(t, strings.Repeat(" ", 19995)+"flush", "removed 0\n"+nothing)
	wantTold(t, strings.Repeat(" ", 19996)+"flush", "? script\n")
	wantTold(t, strings.Repeat(" ", 100000), "? script\n")
	var lines strings.Builder
	for i := range 10000 {
		lines.WriteString("? " + strconv.Itoa(i+1) + "\n")
	}
	wantTold(t, strings.Repeat("x\n", 10000), lines.String()+nothing)
	wantTold(t, strings.Repeat("\n", 19999)+"x", "? 20000\n"+nothing)
}

// Unclear lines and lines that are passed over count as well.
func TestP16NumbersOfLines(t *testing.T) {
	wantTold(t, "x", "? 1\n"+nothing)
	wantTold(t, "x\n", "? 1\n"+nothing)
	wantTold(t, "\nx", "? 2\n"+nothing)
	wantTold(t, "x\n\n  \nflush\ny\n\n\nflush\nz", "? 1\n? 5\n? 9\nremoved 0\nremoved 0\n"+nothing)
	wantTold(t, "flush\nflush", "removed 0\nremoved 0\n"+nothing)
	wantTold(t, "flush\nflush\n", "removed 0\nremoved 0\n"+nothing)
	wantTold(t, "flush\nflush\n\n", "removed 0\nremoved 0\n"+nothing)
}

func TestP16SpacesAroundWords(t *testing.T) {
	for _, script := range []string{
		"parse 32 1", " parse 32 1", "parse  32 1", "parse 32   1", "parse 32 1 ", "    parse    32    1    ", "parse 32 1\n", "  parse 32 1  \n",
	} {
		wantTold(t, script, "parse 3f800000 0\nsteps 9 fast 1 slow 0 hits 0 made 1 published 1 evicted 0 lost 0\n")
	}
	for _, script := range []string{"flush", "  flush", "flush  ", "\n  flush  \n", " flush \n "} {
		wantTold(t, script, "removed 0\n"+nothing)
	}
}

// Only byte 32 parts words, and only byte 10 parts lines.
func TestP16OtherBlanks(t *testing.T) {
	for _, blank := range []string{"\t", "\r", "\v", "\f", "\x00", "\u00a0", "\u0085", "\u2028", "\u2003", "\xa0", "\x85", "\xff", "\xe2\x80", "\x1f"} {
		for _, script := range []string{"flush" + blank, blank + "flush", "flush" + blank + "\n", blank, "evict 1" + blank + "64", "evict" + blank + "1 64", "picks 1" + blank, "workers 1" + blank, "cache 1 1" + blank, "print 32 1" + blank, "parse 32" + blank + " 1"} {
			wantTold(t, script, "? 1\n"+nothing)
		}
		// Within a text to be read it is a wrong byte.
		wantTold(t, "parse 32 1"+blank, "error 1 1\nsteps 1 fast 0 slow 0 hits 0 made 0 published 0 evicted 0 lost 0\n")
		wantTold(t, "parse 32 "+blank+"1", "error 1 0\nsteps 1 fast 0 slow 0 hits 0 made 0 published 0 evicted 0 lost 0\n")
	}
}

func TestP16NumbersOfWords(t *testing.T) {
	for _, script := range []string{
		"cache", "cache 1", "cache 1 1 1", "workers", "workers 1 1", "width", "width 1 1", "parse", "parse 32", "parse 32 1 1", "print", "print 32", "print 32 1 1",
		"go 1", "go go", "evict", "evict 1", "evict 1 64 1", "flush 1", "flush flush",
	} {
		wantTold(t, script, "? 1\n"+nothing)
		wantTold(t, "flush\n  "+script+"  \nflush\n", "? 2\nremoved 0\nremoved 0\n"+nothing)
	}
	for _, script := range []string{"cache 1 1", "workers 1", "width 1", "picks", "picks 1", "picks 1 2 3 4 5 6 7 8 9 10", "go"} {
		wantTold(t, script, nothing)
	}
	wantTold(t, "evict 1 64", "removed 0\n"+nothing)
}

func TestP16FirstWords(t *testing.T) {
	for _, word := range []string{
		"Go", "GO", "gO", "goo", "g", "Flush", "FLUSH", "flus", "flushh", "CACHE 1 1", "Cache 1 1", "caches 1 1", "WORKERS 1", "worker 1", "Width 1", "with 1", "Picks", "PICKS", "pick",
		"Parse 32 1", "PARSE 32 1", "parsed 32 1", "Print 32 1", "PRINT 32 1", "Evict 1 64", "EVICT 1 64", "1", "32", "?", "# flush", "-", "steps", "\"go\"", "go;", "pärse 32 1", "ﬂush",
	} {
		wantTold(t, word, "? 1\n"+nothing)
	}
}

var (
	rightIntegers = map[string]int{
		"0": 0, "-0": 0, "00": 0, "7": 7, "-7": -7, "007": 7, "-007": -7, "000000007": 7, "-000000007": -7, "000000000": 0,
		"123456789": 123456789, "-123456789": -123456789, "999999999": 999999999, "-999999999": -999999999, "010": 10, "08": 8,
	}
	wrongIntegers = []string{
		"-", "+", "+1", "+0", "--1", "-+1", "+-1", "1-", "1+", "1.", "1.0", ".1", "1e1", "0x1", "x", "1x", "x1", "1_0", "0000000000", "0000000001", "1234567890", "-1234567890", "-0000000001",
		"9223372036854775808", "-9223372036854775809", "18446744073709551617", "99999999999999999999999999", "١", "１", "1,2", "1;", "'1'", "\xff", "1\xff", "½", "0b1", "0o1", "1'000", "−1",
	}
)

// An integer that is wrong for the service makes a report that is not OK, one
// that is no integer an unclear line.
func TestP16Integers(t *testing.T) {
	for word, n := range rightIntegers {
		service := map[bool]string{true: nothing, false: "? service\n"}
		wantTold(t, "workers "+word, service[n >= 1 && n <= 8])
		wantTold(t, "width "+word, service[n >= 1 && n <= 128])
		wantTold(t, "cache "+word+" 4", service[n >= 1 && n <= 16])
		wantTold(t, "cache 4 "+word, service[n >= 1 && n <= 64])
		wantTold(t, "picks "+word+" "+word, nothing)
		removed := map[bool]string{true: "removed 0\n" + nothing, false: "? service\n"}
		wantTold(t, "evict "+word+" 64", removed[n >= -5200 && n <= 5200])
		wantTold(t, "evict 1 "+word, removed[n >= 1 && n <= 128])
	}
	for _, word := range wrongIntegers {
		for _, line := range []string{
			"workers W", "width W", "cache W 4", "cache 4 W", "cache W W", "picks W", "picks 1 W", "picks W 1", "picks 1 2 W 3 4", "evict W 64", "evict 1 W", "evict W W",
		} {
			wantTold(t, strings.ReplaceAll(line, "W", word), "? 1\n"+nothing)
		}
	}
}

// With 2 workers, 1 slot and one key the picks tell who loses: all of the second
// worker's steps first, and nobody does.
const pickScript = "cache 1 1\nparse 32 1\nparse 32 1\n"

func TestP16Picks(t *testing.T) {
	turns := "parse 3f800000 0\nparse 3f800000 0\nsteps 13 fast 2 slow 0 hits 1 made 2 published 1 evicted 0 lost 1\n"
	alone := "parse 3f800000 0\nparse 3f800000 0\nsteps 9 fast 2 slow 0 hits 1 made 1 published 1 evicted 0 lost 0\n"
	wantTold(t, pickScript, turns)
	wantTold(t, pickScript+"picks\n", turns)
	wantTold(t, pickScript+"picks 1 1 1 1 1 1\n", alone)
	wantTold(t, "picks -1 -1 -1 -1 -1 -1 0 0 0\n"+pickScript, alone)
	wantTold(t, "picks 999999999 -999999999 -1\n"+pickScript+"picks\npicks 1 3 5", alone)
	// A line with a wrong one among right ones adds none at all.
	wantTold(t, pickScript+"picks 1 1 1 1 1 1 x\n", "? 4\n"+turns)
	wantTold(t, pickScript+"picks 1 1 1 +1 1 1\n", "? 4\n"+turns)
	wantTold(t, pickScript+"picks 1 1 1\npicks 0 0 0 x\npicks 1 1 1\n", "? 5\n"+alone)
}

func TestP16Formats(t *testing.T) {
	for _, f := range []string{"0", "1", "2", "3", "16", "31", "33", "65", "63", "79", "81", "127", "129", "256", "032", "+32", "-32", "32.", "32x", "x32", "0x20", "f32", "float32", "Binary32", "binary64", "3２", "32,"} {
		wantTold(t, "parse "+f+" 1", "? 1\n"+nothing)
		wantTold(t, "print "+f+" 1", "? 1\n"+nothing)
	}
	for f, want := range map[string]string{
		"32":  "parse 3f800000 0\nprint 1e-45\n",
		"64":  "parse 3ff0000000000000 0\nprint 5e-324\n",
		"80":  "parse 3fff8000000000000000 0\nprint 4e-4951\n",
		"128": "parse 3fff0000000000000000000000000000 0\nprint 6e-4966\n",
	} {
		wantTold(t, "parse "+f+" 1\nprint "+f+" 1", want+"steps 10 fast 1 slow 0 hits 0 made 1 published 1 evicted 0 lost 0\n")
	}
}

func TestP16HexadecimalWords(t *testing.T) {
	one := "steps 1 fast 0 slow 0 hits 0 made 0 published 0 evicted 0 lost 0\n"
	for line, want := range map[string]string{
		"print 32 0":        "print 0\n",
		"print 32 80000000": "print -0\n",
		"print 32 3dcccccd": "print 0.1\n",
		"print 32 3DCCCCCD": "print 0.1\n",
		"print 32 3dCcCcCd": "print 0.1\n",
		"print 32 0000000000000000000000003dcccccd":  "print 0.1\n",
		"print 32 7f800000":                          "print inf\n",
		"print 32 ff800000":                          "print -inf\n",
		"print 32 7fffffff":                          "print NaN\n",
		"print 32 13dcccccd":                         "error 3 0\n",
		"print 32 10000000000000000000000000000000":  "error 3 0\n",
		"print 64 123456789abcdef":                   "print 3.512700564088504e-303\n",
		"print 64 123456789ABCDEF":                   "print 3.512700564088504e-303\n",
		"print 64 3ff0000000000000":                  "print 1\n",
		"print 64 13ff0000000000000":                 "error 3 0\n",
		"print 64 f":                                 "print 7.4e-323\n",
		"print 64 F":                                 "print 7.4e-323\n",
		"print 80 3fff8000000000000000":              "print 1\n",
		"print 80 8000000000000000":                  "error 3 0\n",
		"print 80 13fff8000000000000000":             "error 3 0\n",
		"print 128 3fff0000000000000000000000000000": "print 1\n",
		"print 128 c0008000000000000000000000000000": "print -3\n",
		"print 128 ffffffffffffffffffffffffffffffff": "print NaN\n",
	} {
		wantTold(t, line, want+one)
	}
	for _, word := range []string{
		"g", "G", "0g", "g0", "x", "0x1", "0X1", "1h", "-1", "+1", "1-", "1.", "1_0", "_1", "1_", ".", "/", ":", "@", "`", "\xff", "1\xff", "é", "１", "ａ", "K",
		strings.Repeat("0", 33), strings.Repeat("f", 33), "0" + strings.Repeat("1", 32), strings.Repeat("1", 64), "3dcccccd,",
	} {
		for _, f := range []string{"32", "64", "80", "128"} {
			wantTold(t, "print "+f+" "+word, "? 1\n"+nothing)
		}
	}
	// Every digit, of either size, in every place.
	for place := range 32 {
		for digit := range 16 {
			small := strconv.FormatInt(int64(digit), 16)
			for _, letter := range []string{small, strings.ToUpper(small)} {
				line := "print 128 " + strings.Repeat("0", 31-place) + letter + strings.Repeat("0", place)
				wantScript(t, line, scriptMeant(line))
			}
		}
	}
	for letter := range 256 {
		line := "print 32 1" + string([]byte{byte(letter)})
		wantScript(t, line, scriptMeant(line))
	}
}

// Texts are read as they stand, whatever they are.
func TestP16TextsToBeRead(t *testing.T) {
	for text, want := range map[string]string{
		"0": "parse 00000000 0", "-0": "parse 80000000 0", "inf": "parse 7f800000 0", "-Infinity": "parse ff800000 0", "nan": "parse 7fc00000 0", "-NaN": "parse 7fc00000 0",
		"x": "error 1 0", "1x": "error 1 1", "infi": "error 1 4", "1e": "error 1 2", "go": "error 1 0", strings.Repeat("1", 801): "error 2 800", strings.Repeat("x", 801): "error 2 800",
		strings.Repeat("0", 800): "parse 00000000 0", strings.Repeat("0", 799) + "x": "error 1 799",
	} {
		wantTold(t, "parse 32 "+text, want+"\nsteps 1 fast 0 slow 0 hits 0 made 0 published 0 evicted 0 lost 0\n")
	}
	// Flags, and a power beyond the table.
	wantTold(t, "workers 1\ncache 1 1\nparse 32 1e39\nparse 32 1e-46\nparse 32 -1e-40\nparse 32 -1e9999",
		"parse 7f800000 1\nparse 00000000 2\nparse 800116c2 2\nparse ff800000 1\nsteps 21 fast 3 slow 1 hits 0 made 3 published 3 evicted 2 lost 0\n")
	// The leading zeros of a word are told in each format.
	wantTold(t, "parse 32 1e-45\nparse 64 5e-324\nparse 80 4e-4951\nparse 128 6e-4966\nworkers 1\ncache 1 64\nwidth 128",
		"parse 00000001 2\nparse 0000000000000001 2\nparse 00000000000000000001 2\nparse 00000000000000000000000000000001 2\n"+
			"steps 276 fast 4 slow 0 hits 0 made 4 published 4 evicted 0 lost 0\n")
	wantTold(t, "parse 128 -2.5\nparse 80 -2.5\nparse 64 -2.5\nparse 32 -2.5",
		"parse c0004000000000000000000000000000 0\nparse c000a000000000000000 0\nparse c004000000000000 0\nparse c0200000 0\n"+
			"steps 25 fast 2 slow 2 hits 3 made 2 published 1 evicted 0 lost 1\n")
}

// What was set in the end counts, wherever it stands, and an unclear line sets
// nothing.
func TestP16SettingsCountInTheEnd(t *testing.T) {
	// One worker and two slots: 7 steps for the first, 3 for the second.
	want := "parse 3f800000 0\nparse 40000000 0\nsteps 10 fast 2 slow 0 hits 1 made 1 published 1 evicted 0 lost 0\n"
	items := "parse 32 1\nparse 32 2\ngo\n"
	wantTold(t, "workers 1\ncache 1 2\n"+items, want)
	wantTold(t, items+"workers 1\ncache 1 2\n", want)
	wantTold(t, "workers 9\ncache 0 0\nwidth 0\n"+items+"workers 1\ncache 1 2\nwidth 64\n", want)
	wantTold(t, "workers 1\ncache 1 2\n"+items+"cache 3 x\ncache y 7\ncache 1\nworkers z\nworkers 2 2\nwidth +1\n", "? 6\n? 7\n? 8\n? 9\n? 10\n? 11\n"+want)
	wantTold(t, "workers 1\ncache 1 2\n"+items+"workers 0\n", "? service\n")
	wantTold(t, "workers 1\ncache 1 2\n"+items+"width 129\n", "? service\n")
	// With fewer bits the fast way is not sure.
	wantTold(t, "parse 32 0.1\nworkers 1\ncache 1 1\nwidth 64", "parse 3dcccccd 0\nsteps 6 fast 1 slow 0 hits 0 made 1 published 1 evicted 0 lost 0\n")
	wantTold(t, "parse 32 0.1\nworkers 1\ncache 1 1\nwidth 4", "parse 3dcccccd 0\nsteps 6 fast 0 slow 1 hits 0 made 1 published 1 evicted 0 lost 0\n")
}

// At first there are 2 shards of 4 slots, 2 workers and 64 bits.
func TestP16SettingsAtFirst(t *testing.T) {
	// More keys than slots in one shard, one in the other, one asked for twice.
	script := "parse 32 1\nparse 32 2\nparse 32 10\nparse 32 100\nparse 32 1e4\nparse 32 1e6\nparse 32 1e8\nparse 128 0.1\nevict 0 64\nevict 0 63\nflush\n"
	set := "cache 2 4\nworkers 2\nwidth 64\n"
	if plain, spoken := string(impl.RunScript([]byte(script))), string(impl.RunScript([]byte(set+script))); plain != spoken {
		t.Errorf("%q, not %q", plain, spoken)
	}
	for _, other := range []string{"cache 1 4\n", "cache 2 3\n", "workers 1\n", "workers 3\n", "width 128\n"} {
		if plain, spoken := string(impl.RunScript([]byte(script))), string(impl.RunScript([]byte(other+script))); plain == spoken {
			t.Errorf("%q changes nothing", other)
		}
	}
	wantScript(t, script, scriptMeant(script))
}

func TestP16Batches(t *testing.T) {
	// "go" with no item that waits is a batch with none.
	wantTold(t, "go", nothing)
	wantTold(t, strings.Repeat("go\n", 30), nothing)
	wantTold(t, strings.Repeat("go\n", 31), "? service\n")
	// Items that wait at the end are a batch of their own, and a call.
	two := "print 32 0\nprint 64 0\n"
	steps := "steps 2 fast 0 slow 0 hits 0 made 0 published 0 evicted 0 lost 0\n"
	wantTold(t, two, "print 0\nprint 0\n"+steps)
	wantTold(t, two+"go", "print 0\nprint 0\n"+steps)
	wantTold(t, two+"go\ngo\n", "print 0\nprint 0\n"+steps)
	wantTold(t, two+"flush", "removed 0\nprint 0\nprint 0\n"+steps)
	wantTold(t, "print 32 0\ngo\nflush\nprint 64 0", "print 0\nremoved 0\nprint 0\n"+steps)
	wantTold(t, strings.Repeat("go\n", 29)+two, "print 0\nprint 0\n"+steps)
	wantTold(t, strings.Repeat("go\n", 30)+two, "? service\n")
	wantTold(t, two+strings.Repeat("go\n", 30), "print 0\nprint 0\n"+steps)
	wantTold(t, two+strings.Repeat("flush\n", 30), "? service\n")
	// 40 items are a batch, 41 are none.
	forty := strings.Repeat("print 32 0\n", 40)
	told := strings.Repeat("print 0\n", 40)
	wantTold(t, forty, told+"steps 40 fast 0 slow 0 hits 0 made 0 published 0 evicted 0 lost 0\n")
	wantTold(t, forty+"go\nprint 32 0", told+"print 0\nsteps 41 fast 0 slow 0 hits 0 made 0 published 0 evicted 0 lost 0\n")
	wantTold(t, forty+"print 32 0", "? service\n")
	wantTold(t, "x\n"+forty+"print 32 0\ngo\nflush\ny", "? 1\n? 45\n? service\n")
}

func TestP16EvictAndFlush(t *testing.T) {
	wantTold(t, "parse 32 1\ngo\nevict 0 64\nevict 0 64\nflush",
		"parse 3f800000 0\nremoved 1\nremoved 0\nremoved 0\nsteps 9 fast 1 slow 0 hits 0 made 1 published 1 evicted 0 lost 0\n")
	wantTold(t, "parse 32 1\nparse 32 0.25\ngo\nevict 2 64\nevict 0 63\nevict -2 64\nflush",
		"parse 3f800000 0\nparse 3e800000 0\nremoved 0\nremoved 0\nremoved 1\nremoved 1\nsteps 18 fast 2 slow 0 hits 0 made 2 published 2 evicted 0 lost 0\n")
	// One key in two slots.
	wantTold(t, "cache 1 2\nparse 32 1\nparse 32 1\ngo\nevict 0 64\npicks 1 1 1 0 0 0 0 0 0 0",
		"parse 3f800000 0\nparse 3f800000 0\nremoved 2\nsteps 15 fast 2 slow 0 hits 0 made 2 published 2 evicted 0 lost 0\n")
	for _, key := range []string{"5201 64", "-5201 64", "0 0", "0 129", "0 -1", "999999999 64", "0 999999999", "-999999999 -999999999"} {
		wantTold(t, "evict "+key, "? service\n")
		wantTold(t, "x\nparse 32 1\ngo\nevict "+key+"\nflush", "? 1\n? service\n")
	}
	for _, key := range []string{"5200 64", "-5200 64", "0 1", "0 128"} {
		wantTold(t, "evict "+key, "removed 0\n"+nothing)
	}
}

// longScript is longRun as a script.
func longScript(steps int) string {
	calls, _ := longRun(steps)
	var script strings.Builder
	script.WriteString("cache 1 64\nworkers 1\n")
	for _, call := range calls {
		for _, item := range call.Items {
			if item.Print {
				script.WriteString("print 32 " + strconv.FormatUint(item.W.Lo, 16) + "\n")
			} else {
				script.WriteString("parse 32 " + string(item.Text) + "\n")
			}
		}
		script.WriteString("go\n")
	}
	return script.String()
}

func TestP16Steps(t *testing.T) {
	script := longScript(60000)
	calls, keys := longRun(60000)
	words := len(calls[len(calls)-1].Items) + 40*(len(calls)-1) - keys
	n := strconv.Itoa(keys)
	last := "steps 60000 fast " + n + " slow 0 hits 0 made " + n + " published " + n + " evicted " + strconv.Itoa(keys-64) + " lost 0\n"
	all := strings.Repeat("parse 00000000 2\n", keys) + strings.Repeat("print 1\n", words)
	wantTold(t, script, all+last)
	wantTold(t, script+"flush\ngo\n", all+"removed 64\n"+last)
	// One step more: the batch that needs it and all behind it are not told.
	wantTold(t, script+"flush\nprint 32 0\ngo\nflush\nflush\n", all+"removed 64\n? steps\n"+last)
	wantTold(t, "x\n"+script+"print 32 0\n", "? 1\n"+all+"? steps\n"+last)
	cut := strings.TrimSuffix(script, "go\n") + "print 32 0\n"
	told := 40 * (len(calls) - 1)
	wantTold(t, cut, strings.Join(strings.SplitAfter(all, "\n")[:told], "")+"? steps\n"+last)
}

func TestP16SomeScripts(t *testing.T) {
	r := rand.New(rand.NewSource(161))
	seen := map[string]int{}
	for range 6000 {
		script := someScript(r)
		want := scriptMeant(script)
		wantScript(t, script, want)
		for _, line := range strings.Split(want, "\n") {
			first, second, _ := strings.Cut(line, " ")
			seen[first]++
			if first == "?" && second == "service" {
				seen[second]++
			}
		}
	}
	for _, what := range []string{"?", "service", "error", "print", "parse", "removed", "steps"} {
		if seen[what] < 200 {
			t.Errorf("%s: %d lines", what, seen[what])
		}
	}
}

// Any bytes at all, and scripts with a byte changed.
func TestP16AnyBytes(t *testing.T) {
	r := rand.New(rand.NewSource(162))
	for range 2000 {
		junk := make([]byte, r.Intn(200))
		for i := range junk {
			junk[i] = byte(r.Intn(256))
			if r.Intn(3) == 0 {
				junk[i] = " \n1"[r.Intn(3)]
			}
		}
		wantScript(t, string(junk), scriptMeant(string(junk)))
		script := []byte(someScript(r))
		if len(script) > 0 {
			script[r.Intn(len(script))] = byte(r.Intn(256))
		}
		wantScript(t, string(script), scriptMeant(string(script)))
	}
}

func TestP16ScriptStaysAndSharesNothing(t *testing.T) {
	r := rand.New(rand.NewSource(163))
	for range 300 {
		script := spare([]byte(someScript(r)), []byte("\nflush\n")...)
		kept := whole(script)
		first := impl.RunScript(script)
		if spilt(script, kept) {
			t.Fatalf("%q: the script is changed", kept)
		}
		told := slices.Clone(first)
		second := impl.RunScript(script)
		spill(first, 'z')
		if spilt(script, kept) || !slices.Equal(second, told) {
			t.Fatalf("%q: the answer shares memory", kept)
		}
		spill(script, 'y')
		if !slices.Equal(second, told) {
			t.Fatalf("%q: the answer shares memory with the script", kept)
		}
	}
	for _, script := range []string{"", strings.Repeat(" ", 20001)} {
		want := string(impl.RunScript([]byte(script)))
		spill(impl.RunScript([]byte(script)), 'z')
		wantScript(t, script, want)
	}
}

func TestP16SameHoweverGoroutinesRun(t *testing.T) {
	script := "workers 8\ncache 1 3\n" + strings.Repeat("parse 32 0.1\nparse 64 1e300\nprint 80 1\nparse 128 7e-4000\nparse 64 x\n", 8) + "go\nflush\nparse 64 1.5\n"
	want := scriptMeant(script)
	for range 60 {
		wantScript(t, script, want)
	}
}
