package reads_test

import (
	"bytes"
	"fmt"
	"maps"
	"math"
	"runtime"
	"slices"
	"strings"
	"testing"
	"unsafe"

	"banksman/api"
	"banksman/reads"
	"banksman/span"
)

// one is a span as its table, and a key (0a), two ends (0ac), one and no other (0a-), or nothing (0), for all of it.
func one(word string) api.Span {
	table, ends := int(word[0]-'0'), word[1:]
	switch {
	case ends == "":
		return api.Span{Table: table, Open: true}
	case len(ends) == 1:
		return api.Span{Table: table, Lo: []byte(ends), Hi: []byte(ends + "\x00")}
	case ends[1] == '-':
		return api.Span{Table: table, Lo: []byte(ends[:1]), Open: true}
	}
	return api.Span{Table: table, Lo: []byte(ends[:1]), Hi: []byte(ends[1:])}
}

// list are spans, each as one has it; writes are some, each as its table, and its key.
func list(words string) []api.Span {
	var l []api.Span
	for _, w := range strings.Fields(words) {
		l = append(l, one(w))
	}
	return l
}
func writes(words string) []api.Write {
	var l []api.Write
	for i, w := range strings.Fields(words) {
		l = append(l, api.Write{Table: int(w[0] - '0'), Key: []byte(w[1:]), Gone: i%2 == 1, Value: []byte("v")})
	}
	return l
}

// past are who committed at stamps, each with what only it has.
func past(stamps ...int) []api.Past {
	var l []api.Past
	for i, s := range stamps {
		l = append(l, api.Past{Snap: 100 - i, Stamp: s, Held: i%2 == 0, Reads: list(fmt.Sprintf("%da 1bd", i%4)), Writes: writes(fmt.Sprintf("%dk 2l", i%4)), Out: i%3 == 0})
	}
	return l
}

// live are who run as of stamps.
func live(snaps ...int) []api.Live {
	var l []api.Live
	for _, s := range snaps {
		l = append(l, api.Live{Snap: s, Reads: list("0a")})
	}
	return l
}

// tells are what there is to say of spans, of writes, and of who committed and who run; those in the lists' spare room, too.
func tellSpans(l []api.Span) string {
	var b []byte
	for _, x := range l[:cap(l)] {
		b = fmt.Appendf(b, "%d %q %q %v, ", x.Table, x.Lo[:cap(x.Lo)], x.Hi[:cap(x.Hi)], x.Open)
	}
	return string(b)
}
func tellWrites(l []api.Write) string {
	var b []byte
	for _, w := range l[:cap(l)] {
		b = fmt.Appendf(b, "%d %q %v %q, ", w.Table, w.Key[:cap(w.Key)], w.Gone, w.Value[:cap(w.Value)])
	}
	return string(b)
}
func tell(l []api.Past, run []api.Live) string {
	var b []byte
	for _, p := range l[:cap(l)] {
		b = fmt.Appendf(b, "%d %d %v %v (%s) (%s) ", p.Snap, p.Stamp, p.Held, p.Out, tellSpans(p.Reads), tellWrites(p.Writes))
	}
	for _, x := range run[:cap(run)] {
		b = fmt.Appendf(b, "%d (%s) ", x.Snap, tellSpans(x.Reads))
	}
	return string(b)
}

// words are those of what is there alone, whatever the spare room.
func words(l []api.Past) string {
	var b []byte
	for _, p := range l {
		b = fmt.Appendf(b, "%d %d %v %v (%s) (", p.Snap, p.Stamp, p.Held, p.Out, spans(p.Reads))
		for _, w := range p.Writes {
			b = fmt.Appendf(b, "%d %q %v %q, ", w.Table, w.Key, w.Gone, w.Value)
		}
		b = append(b, ") "...)
	}
	return string(b)
}
func spans(l []api.Span) string {
	var b []byte
	for _, x := range l {
		b = fmt.Appendf(b, "%d %q %q %v, ", x.Table, x.Lo, x.Hi, x.Open)
	}
	return string(b)
}

// named are all of a map, in its names' order.
func named[T any](m map[string]T) func(yield func(string, T) bool) {
	return func(yield func(string, T) bool) {
		for _, k := range slices.Sorted(maps.Keys(m)) {
			if !yield(k, m[k]) {
				return
			}
		}
	}
}

// within tells whether a table's key is in a span, by chapter 10's words.
func within(x api.Span, table int, key string) bool {
	return table == x.Table && key >= string(x.Lo) && (x.Open || key < string(x.Hi))
}

// hits tells whether writes are of what was read, by the chapter's words.
func hits(l []api.Span, w []api.Write) bool {
	for _, x := range l {
		for _, y := range w {
			if within(x, y.Table, string(y.Key)) {
				return true
			}
		}
	}
	return false
}

// kept are who are kept, by the chapter's words.
func kept(l []api.Past, run []api.Live) []api.Past {
	var own []api.Past
	for _, p := range l {
		for _, x := range run {
			if p.Stamp > x.Snap {
				own = append(own, p)
				break
			}
		}
	}
	return own
}

// P13.1
func TestNote(t *testing.T) {
	for what, c := range named(map[string]struct{ l, x, want string }{
		"the first":             {"", "0a", "0a"},
		"behind another one":    {"0b", "0a", "0b 0a"},
		"the same again":        {"0a 0b", "0a", "0a 0b"},
		"one that is covered":   {"0a 0bd", "0c", "0a 0bd"},
		"one that covers":       {"0b 0a 0c", "0bd", "0a 0bd"},
		"one of no key":         {"0a", "0ca", "0a"},
		"the fourth":            {"0a 0b 0c", "0d", "0a 0b 0c 0d"},
		"the fifth":             {"0a 0b 0c 0d", "0e", "0"},
		"the fifth, covered":    {"0a 0b 0c 0d", "0d", "0a 0b 0c 0d"},
		"the fifth, covers":     {"0a 0b 0c 0d", "0df", "0a 0b 0c 0df"},
		"the fifth, of another": {"0a 0b 0c 0d", "1a", "0a 0b 0c 0d 1a"},
		"the fifth, among":      {"1a 0a 0b 2a 0c 0d 3a", "0e", "1a 0 2a 3a"},
		"the fifth of two":      {"0a 1a 0b 1b 0c 1c 0d 1d", "1e", "0a 1 0b 0c 0d"},
		"behind all of it":      {"0", "0a", "0"},
		"all of it":             {"0a 0b 1c", "0", "1c 0"},
		"more than four, ahead": {"0a 0b 0c 0d 0e 1a", "1b", "0a 0b 0c 0d 0e 1a 1b"},
		"more than four, more":  {"0a 0b 0c 0d 0e 1a", "0f", "0 1a"},
		"of the last table":     {"3a 3b 3c 3d", "3e", "3"},
	}) {
		if got, e := reads.Note(list(c.l), one(c.x)); spans(got) != spans(list(c.want)) || e != api.OK {
			t.Errorf("%s: %s, %d", what, spans(got), e)
		}
	}
}

// wrong are spans that may not be.
func wrong() map[string]api.Span {
	all := map[string]api.Span{
		"Open, with an end": {Hi: []byte("b"), Open: true},
		"a long beginning":  {Lo: bytes.Repeat([]byte("a"), 18), Open: true},
		"a long end":        {Hi: bytes.Repeat([]byte("a"), 18)},
	}
	for _, n := range []int{math.MinInt, -257, -1, 4, 5, 256, 1 << 31, 1 << 32, math.MaxInt} {
		all[fmt.Sprint("table ", n)] = api.Span{Table: n, Open: true}
		all[fmt.Sprint("table ", n, ", of no key")] = api.Span{Table: n}
	}
	return all
}

// P13.1: of spans that may not be.
func TestNoteOfWrong(t *testing.T) {
	for what, x := range named(wrong()) {
		for _, l := range [][]api.Span{nil, list("0a"), list("0a 0b 0c 0d 0e"), {x}, {one("0"), x}} {
			if got, e := reads.Note(l, x); spans(got) != spans(l) || e != api.ErrArg {
				t.Errorf("%s, behind %s: %s, %d", what, spans(l), spans(got), e)
			}
		}
		for _, l := range [][]api.Span{{x}, {x, one("0a")}, {one("0a"), x}, {one("0"), x}} {
			for _, y := range list("0a 0b 0 1a 0ca") {
				if got, e := reads.Note(l, y); spans(got) != spans(l) || e != api.ErrArg {
					t.Errorf("%s: %s, %d", what, spans(got), e)
				}
			}
		}
	}
	for _, size := range []int{16, 17} {
		long := api.Span{Lo: bytes.Repeat([]byte("a"), size), Hi: bytes.Repeat([]byte("b"), size)}
		if got, e := reads.Note(list("0x"), long); spans(got) != spans([]api.Span{one("0x"), long}) || e != api.OK {
			t.Errorf("%d: %s, %d", size, spans(got), e)
		}
	}
}

// P13.1: the chapter's example, and others.
func TestHit(t *testing.T) {
	for what, c := range named(map[string]struct {
		l, w string
		want bool
	}{
		"nothing":               {"", "", false},
		"nothing was read":      {"", "0a", false},
		"nothing is written":    {"0", "", false},
		"the chapter's":         {"0b-", "0c", true},
		"the beginning":         {"0b-", "0b", true},
		"ahead of it":           {"0b-", "0a", false},
		"ahead of it by a byte": {"0b-", "0a\xff", false},
		"the end":               {"0bd", "0d", false},
		"ahead of the end":      {"0bd", "0c\xff\xff", true},
		"behind a key":          {"0b", "0b\x00", false},
		"the key":               {"0b", "0b", true},
		"of another table":      {"0b", "1b", false},
		"of all of another one": {"0", "1b", false},
		"all":                   {"2", "2", true},
		"the empty key":         {"0a-", "0", false},
		"the last one of each":  {"0a 1a 2ac 3b", "0b 1b 3a 2c 3b", true},
		"the first one of each": {"0a 1a 2ac 3b", "0a 0b 0c", true},
		"each of another table": {"0a 1b 2c", "1a 2b 0c", false},
		"of no key":             {"0ca 0bb", "0a 0b 0c", false},
		"one that is gone":      {"0b", "0a 0b", true},
	}) {
		if got := reads.Hit(list(c.l), writes(c.w)); got != c.want {
			t.Errorf("%s: %v", what, got)
		}
	}
	// What may not be read, or written, is compared like all else.
	for _, n := range []int{math.MinInt, -1, 4, 256, 1 << 32, math.MaxInt} {
		l := []api.Span{{Table: n, Lo: []byte("b"), Hi: []byte("d"), Open: true}}
		x, y, z := api.Write{Table: n, Key: []byte("z")}, api.Write{Table: n, Key: []byte("a")}, api.Write{Key: []byte("z")}
		if !reads.Hit(l, []api.Write{x}) || reads.Hit(l, []api.Write{y, z}) || reads.Hit(list("0 1 2 3"), []api.Write{x, y}) {
			t.Errorf("of table %d", n)
		}
	}
	long := bytes.Repeat([]byte("c"), 40)
	if !reads.Hit(list("0bd"), []api.Write{{Key: long, Value: long}}) || !reads.Hit([]api.Span{{Lo: long[:39], Open: true}}, []api.Write{{Key: long}}) || reads.Hit([]api.Span{{Lo: long, Open: true}}, []api.Write{{Key: long[:39]}}) {
		t.Error("a long key")
	}
}

// P13.1: all of up to two spans, and up to two writes, of some.
func TestHitOfAll(t *testing.T) {
	some := list("0 0a 0b 0ac 0bd 0b- 0cb 1b 1a-")
	keys := writes("0 0a 0a\x00 0b 0c 0d 1b 1a")
	reading, writing := [][]api.Span{nil}, [][]api.Write{nil}
	for _, x := range some {
		reading = append(reading, []api.Span{x})
		for _, y := range some {
			reading = append(reading, []api.Span{x, y})
		}
	}
	for _, x := range keys {
		writing = append(writing, []api.Write{x})
		for _, y := range keys {
			writing = append(writing, []api.Write{x, y})
		}
	}
	for _, l := range reading {
		for _, w := range writing {
			if got := reads.Hit(l, w); got != hits(l, w) {
				t.Errorf("%s, %s: %v", spans(l), tellWrites(w), got)
			}
		}
	}
	for _, a := range writing {
		for _, b := range writing {
			want := false
			for _, x := range a {
				for _, y := range b {
					want = want || x.Table == y.Table && string(x.Key) == string(y.Key)
				}
			}
			if got := reads.Same(a, b); got != want {
				t.Errorf("%s, %s: %v", tellWrites(a), tellWrites(b), got)
			}
		}
	}
}

// P13.1
func TestSame(t *testing.T) {
	for what, c := range named(map[string]struct {
		a, b string
		want bool
	}{
		"nothing":                {"", "", false},
		"nothing, and one":       {"", "0a", false},
		"one":                    {"0a", "0a", true},
		"another key":            {"0a", "0b", false},
		"a longer key":           {"0a", "0a\x00", false},
		"another table":          {"0a", "1a", false},
		"the empty key":          {"3", "3", true},
		"the empty key, another": {"0", "1", false},
		"table and key of two":   {"0a 1b", "0b 1a", false},
		"the last, the first":    {"0a 0b 0c", "0c 0d", true},
		"the first, the last":    {"0c 0d", "0a 0b 0c", true},
		"the middle ones":        {"0a 1b 0c", "0d 1b 0e", true},
		"among one another":      {"0a 0a", "0b 0b", false},
		"a table as a key":       {"11", "12", false},
	}) {
		if got, back := reads.Same(writes(c.a), writes(c.b)), reads.Same(writes(c.b), writes(c.a)); got != c.want || back != c.want {
			t.Errorf("%s: %v, turned %v", what, got, back)
		}
	}
	// What the keys are to have is nothing to it, nor whether a table, or a key, may be.
	long := bytes.Repeat([]byte("k"), 50)
	for _, n := range []int{math.MinInt, -1, 0, 4, 256, 1 << 32, math.MaxInt} {
		a := []api.Write{{Table: n, Key: long, Gone: true}}
		if !reads.Same(a, []api.Write{{Table: n, Key: long, Value: []byte("v")}}) || reads.Same(a, []api.Write{{Table: n + 1, Key: long, Gone: true}, {Table: n, Key: long[1:], Gone: true}}) {
			t.Errorf("of table %d", n)
		}
	}
}

// P13.2
func TestKeep(t *testing.T) {
	for what, c := range named(map[string]struct {
		stamps, snaps, want []int
	}{
		"nobody committed":     {nil, []int{0}, nil},
		"nobody runs":          {[]int{1, 2}, nil, nil},
		"behind it":            {[]int{3, 4, 7}, []int{3}, []int{4, 7}},
		"all":                  {[]int{3, 4, 7}, []int{2}, []int{3, 4, 7}},
		"none":                 {[]int{3, 4, 7}, []int{7}, nil},
		"the last one":         {[]int{3, 4, 7}, []int{6}, []int{7}},
		"between":              {[]int{3, 4, 7}, []int{5}, []int{7}},
		"the least, first":     {[]int{3, 4, 7}, []int{3, 9, 6}, []int{4, 7}},
		"the least, last":      {[]int{3, 4, 7}, []int{9, 6, 3}, []int{4, 7}},
		"the least, among":     {[]int{3, 4, 7}, []int{9, 3, 6}, []int{4, 7}},
		"the same one twice":   {[]int{3, 4, 7}, []int{4, 4}, []int{7}},
		"that do not rise":     {[]int{7, 2, 9, 3, 8}, []int{3}, []int{7, 9, 8}},
		"that fall":            {[]int{9, 7, 5}, []int{6}, []int{9, 7}},
		"of one stamp":         {[]int{4, 4, 3, 4}, []int{3}, []int{4, 4, 4}},
		"0":                    {[]int{0, 1}, []int{0}, []int{1}},
		"below 0":              {[]int{-3, -2, -1}, []int{-2}, []int{-1}},
		"below 0, two":         {[]int{-3, -2, 5}, []int{4, -3}, []int{-2, 5}},
		"the ends":             {[]int{math.MinInt, 0, math.MaxInt}, []int{math.MinInt}, []int{0, math.MaxInt}},
		"the greatest":         {[]int{math.MinInt, 0, math.MaxInt}, []int{math.MaxInt}, nil},
		"the greatest but one": {[]int{math.MinInt, math.MaxInt}, []int{math.MaxInt - 1}, []int{math.MaxInt}},
		"far apart":            {[]int{math.MinInt + 1, -1, math.MaxInt}, []int{math.MaxInt, math.MinInt}, []int{math.MinInt + 1, -1, math.MaxInt}},
		"of 32 bits":           {[]int{1 << 32, 1<<32 + 5, 7}, []int{6, 1<<32 + 4}, []int{1 << 32, 1<<32 + 5, 7}},
	}) {
		l, run := past(c.stamps...), live(c.snaps...)
		var got []int
		for _, p := range reads.Keep(l, run) {
			got = append(got, p.Stamp)
		}
		if !slices.Equal(got, c.want) || words(reads.Keep(l, run)) != words(kept(l, run)) {
			t.Errorf("%s: %v", what, got)
		}
	}
}

// P13.2: all of up to three who committed, and up to three who run, of some stamps.
func TestKeepOfAll(t *testing.T) {
	some := [][]int{nil}
	for i := 0; len(some[i]) < 3; i++ {
		for n := range 4 {
			some = append(some, append(slices.Clone(some[i]), n))
		}
	}
	for _, stamps := range some {
		for _, snaps := range some {
			l, run := past(stamps...), live(snaps...)
			if got := reads.Keep(l, run); words(got) != words(kept(l, run)) {
				t.Fatalf("%v, %v: %s", stamps, snaps, words(got))
			}
		}
	}
}

// P13.2: neither what they read, nor what they wrote, nor whether they may be, is anything to it; and all of it stays.
func TestKeepOfOthers(t *testing.T) {
	full := api.Past{Snap: -7, Stamp: 9, Held: true, Reads: []api.Span{{Table: -1, Lo: []byte("b"), Hi: []byte("a"), Open: true}, {}}, Writes: []api.Write{{Table: 9, Key: []byte("k"), Gone: true, Value: []byte("v")}, {}}, Out: true}
	l := []api.Past{{Stamp: 5}, full, {Snap: 4, Stamp: 4, Out: true}, {Snap: 8, Stamp: 8, Held: true}}
	for _, run := range [][]api.Live{{{Snap: 4}}, {{Snap: 4, Reads: full.Reads}, {Snap: 20}}} {
		if got := reads.Keep(l, run); words(got) != words([]api.Past{l[0], full, l[3]}) {
			t.Errorf("%s", words(got))
		}
	}
}

// P13.3: with P13.1 as span.Add has it: what is noted, one behind the other, of all kinds, is hit as it was, and by what hits what is noted.
func TestHitBehindNote(t *testing.T) {
	ends := []string{"", "a", "b", "c", "d", "e", "f", "g", "ac", "bd", "ce", "fb", "dd", "b-", "f-"}
	keys := []string{"", "a", "a\x00", "b", "b\x01", "c", "d", "e", "f", "f\xff", "g", "h"}
	most := 0
	for seed := range 400 {
		n := uint32(seed * 7919)
		next := func(below int) int {
			n = n*1664525 + 1013904223
			return int(n>>16) % below
		}
		var l []api.Span
		for range 30 {
			x := one(fmt.Sprint(next(1+seed%4), ends[next(len(ends)-next(2))]))
			if x.Open && len(x.Lo) == 0 && next(4) > 0 {
				continue
			}
			m, e := reads.Note(l, x)
			if want, f := span.Add(l, x, 4); spans(m) != spans(want) || e != api.OK || f != api.OK {
				t.Fatalf("%s with %s: %s, %d", spans(l), spans([]api.Span{x}), spans(m), e)
			}
			for table := range 4 {
				many := 0
				for _, s := range m {
					if s.Table == table {
						many++
					}
				}
				most = max(most, many)
				for _, k := range keys {
					w := []api.Write{{Table: table, Key: []byte(k)}}
					if is := reads.Hit(m, w); is != hits(m, w) || !is && (reads.Hit(l, w) || hits([]api.Span{x}, w)) {
						t.Fatalf("%s with %s: %d%q", spans(l), spans([]api.Span{x}), table, k)
					}
				}
			}
			l = m
		}
	}
	if most != api.MaxReads {
		t.Errorf("of a table there were at most %d", most)
	}
}

// R1: long lists, and texts.
func TestLong(t *testing.T) {
	many, more := make([]api.Span, 1<<20), make([]api.Write, 1<<20)
	p, run := make([]api.Past, 1<<20), make([]api.Live, 1<<20)
	for i := range p {
		many[i], more[i] = one("0a"), api.Write{Table: 1}
		p[i].Stamp, run[i].Snap = i, 1<<20-i
	}
	if got := reads.Keep(p, run); len(got) != 1<<20-2 || got[0].Stamp != 2 {
		t.Errorf("%d are kept", len(got))
	}
	one := []api.Write{{Table: 0, Key: []byte("a")}}
	if reads.Hit(many, more[:1]) || reads.Hit(many[:1], more) || !reads.Hit(many, one) || !reads.Hit(many[:1], append(more, one...)) {
		t.Error("hit")
	}
	if reads.Same(one, more) || reads.Same(more, one) || !reads.Same(append(more, one...), one) || !reads.Same(one, append(more, one...)) {
		t.Error("same")
	}
	if got, e := reads.Note(many, api.Span{Open: true}); len(got) != 1 || e != api.OK {
		t.Errorf("%d spans, %d", len(got), e)
	}
	long := bytes.Repeat([]byte("k"), 1<<20)
	w := []api.Write{{Key: long, Value: long}}
	if !reads.Same(w, w) || !reads.Hit([]api.Span{{Lo: long, Open: true}}, w) {
		t.Error("a long key")
	}
	if got, e := reads.Note(nil, api.Span{Lo: long, Open: true}); len(got) > 0 || e != api.ErrArg {
		t.Errorf("a long beginning: %d", e)
	}
}

// spare is a list in memory of its own, with room behind it, in which something stands.
func spare[T any](l []T, more T) []T {
	return append(append(make([]T, 0, len(l)+1), l...), more)[:len(l)]
}

// The twins are lists in memory of their own, each, and each of theirs, with spare room.
func twinSpans(l []api.Span) []api.Span {
	l = spare(l, one("3sp"))
	for i, x := range l {
		l[i].Lo, l[i].Hi = spare(x.Lo, 'z'), spare(x.Hi, 'z')
	}
	return l
}
func twinWrites(l []api.Write) []api.Write {
	l = spare(l, writes("3spare")[0])
	for i, w := range l {
		l[i].Key, l[i].Value = spare(w.Key, 'z'), spare(w.Value, 'z')
	}
	return l
}
func twinPast(l []api.Past) []api.Past {
	l = spare(l, past(99)[0])
	for i, p := range l {
		l[i].Reads, l[i].Writes = twinSpans(p.Reads), twinWrites(p.Writes)
	}
	return l
}
func twinLive(l []api.Live) []api.Live {
	l = spare(l, live(99)[0])
	for i, x := range l {
		l[i].Reads = twinSpans(x.Reads)
	}
	return l
}

// The spoilers write something into all of a list, and of its spare room.
func spoilSpans(l []api.Span) {
	for i, x := range l[:cap(l)] {
		clear(x.Lo[:cap(x.Lo)])
		clear(x.Hi[:cap(x.Hi)])
		l[:cap(l)][i] = api.Span{Table: -9}
	}
}
func spoilWrites(l []api.Write) {
	for i, w := range l[:cap(l)] {
		clear(w.Key[:cap(w.Key)])
		clear(w.Value[:cap(w.Value)])
		l[:cap(l)][i] = api.Write{Table: -9}
	}
}
func spoilPast(l []api.Past) {
	for i, p := range l[:cap(l)] {
		spoilSpans(p.Reads)
		spoilWrites(p.Writes)
		l[:cap(l)][i] = api.Past{Stamp: -9}
	}
}

// room is where a list stands, with its spare room; at is that of a list, none of one without any.
type room struct{ from, to uintptr }

func at[T any](l []T) []room {
	if cap(l) == 0 {
		return nil
	}
	var x T
	from := uintptr(unsafe.Pointer(unsafe.SliceData(l)))
	return []room{{from, from + uintptr(cap(l))*unsafe.Sizeof(x)}}
}
func atSpans(l []api.Span) []room {
	all := at(l)
	for _, x := range l[:cap(l)] {
		all = slices.Concat(all, at(x.Lo), at(x.Hi))
	}
	return all
}
func atPast(l []api.Past) []room {
	all := at(l)
	for _, p := range l[:cap(l)] {
		all = slices.Concat(all, atSpans(p.Reads), at(p.Writes))
		for _, w := range p.Writes[:cap(p.Writes)] {
			all = slices.Concat(all, at(w.Key), at(w.Value))
		}
	}
	return all
}

// apart tells whether no two of them share memory.
func apart(all []room) bool {
	slices.SortFunc(all, func(a, b room) int { return int(a.from) - int(b.from) })
	for i := 1; i < len(all); i++ {
		if all[i].from < all[i-1].to {
			return false
		}
	}
	return true
}

// cases are what is handed in: spans, one more, writes, others, who committed, and who run.
type cases struct {
	l    []api.Span
	x    api.Span
	a, b []api.Write
	p    []api.Past
	run  []api.Live
}

func some() []cases {
	var all []cases
	for _, l := range []string{"", "0a", "0a 0b 0c 0d", "0a 1b 0bd 2"} {
		for _, x := range []api.Span{one("0a"), one("0e"), one("0ca"), one("0"), one("2b"), {Table: 4}} {
			for _, w := range []string{"", "0a 1b", "1c 0c"} {
				all = append(all, cases{list(l), x, writes(w), writes("0a 0c"), past(3, 5, 4), live(4, 3)})
			}
		}
	}
	for _, stamps := range [][]int{nil, {1}, {1, 2, 3, 4}, {4, 3, 2, 1}} {
		for _, snaps := range [][]int{nil, {0}, {2, 3}, {9}} {
			all = append(all, cases{list("0a"), one("1a"), writes("0b"), nil, past(stamps...), live(snaps...)})
		}
	}
	return append(all, cases{x: one("0a"), p: []api.Past{{Stamp: 1}}, run: []api.Live{{}}})
}

// twin is a case in memory of its own.
func (c cases) twin() cases {
	return cases{twinSpans(c.l), twinSpans([]api.Span{c.x})[0], twinWrites(c.a), twinWrites(c.b), twinPast(c.p), twinLive(c.run)}
}

// tell is what there is to say of a case.
func (c cases) tell() string {
	return tellSpans(c.l) + tellSpans([]api.Span{c.x}) + tellWrites(c.a) + tellWrites(c.b) + tell(c.p, c.run)
}

// answers are what all calls answer, in words, and the lists among these.
func (c cases) answers() (string, []api.Span, []api.Past) {
	l, e := reads.Note(c.l, c.x)
	p := reads.Keep(c.p, c.run)
	return fmt.Sprint(spans(l), e, reads.Hit(c.l, c.a), reads.Same(c.a, c.b), words(p)), l, p
}

// R3, R4: nothing is written into what is handed in, or its spare room, by a call, or by who has its answers; what is answered stays, whatever becomes of what was handed in; and no two lists share memory.
func TestArgumentsAndAnswersStay(t *testing.T) {
	for _, c := range some() {
		own := c.twin()
		was := own.tell()
		want, _, _ := c.answers()
		told, l, p := own.answers()
		again, m, q := own.answers()
		if told != want || again != want {
			t.Fatalf("%s: %s, and %s, for %s", was, told, again, want)
		}
		all := slices.Concat(atSpans(l), atSpans(m), atPast(p), atPast(q), atSpans(own.l), atSpans([]api.Span{own.x})[1:], atPast(own.p))
		if !apart(all) {
			t.Fatalf("%s: memory is shared", was)
		}
		spoilSpans(m)
		spoilPast(q)
		if own.tell() != was {
			t.Fatalf("%s: what was handed in is changed", was)
		}
		stays := tellSpans(l) + tell(p, nil)
		spoilSpans(own.l)
		spoilSpans([]api.Span{own.x})
		spoilPast(own.p)
		if tellSpans(l)+tell(p, nil) != stays {
			t.Fatalf("%s: what was answered is changed", was)
		}
		// Memory that nobody has any more may be another one's.
		runtime.KeepAlive([]any{l, m, p, q, own})
	}
}

// R5: what was asked ahead, or beside, and whether an empty list is nil, is nothing to an answer.
func TestNothingElseMatters(t *testing.T) {
	var first []string
	all := some()
	for _, c := range all {
		told, _, _ := c.answers()
		first = append(first, told)
	}
	done := make(chan bool)
	for range 3 {
		go func() {
			for i, c := range slices.Backward(all) {
				if told, _, _ := c.answers(); told != first[i] {
					t.Errorf("%s: %s, ahead of it %s", c.tell(), told, first[i])
				}
			}
			done <- true
		}()
	}
	for range 3 {
		<-done
	}
	none := cases{[]api.Span{}, api.Span{Lo: []byte{}, Open: true, Hi: []byte{}}, []api.Write{}, []api.Write{}, []api.Past{{Stamp: 1, Reads: []api.Span{}, Writes: []api.Write{}}}, []api.Live{{Reads: []api.Span{}}}}
	x, _, _ := none.answers()
	y, _, _ := cases{x: api.Span{Open: true}, p: []api.Past{{Stamp: 1}}, run: []api.Live{{}}}.answers()
	if x != y {
		t.Errorf("%s, and %s", x, y)
	}
	none.p, none.run = []api.Past{}, []api.Live{}
	x, _, _ = none.answers()
	y, _, _ = cases{x: api.Span{Open: true}}.answers()
	if x != y {
		t.Errorf("%s, and %s", x, y)
	}
}
