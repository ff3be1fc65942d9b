package rival_test

import (
	"bytes"
	"fmt"
	"maps"
	"math"
	"runtime"
	"slices"
	"strings"
	"testing"
	"unsafe"

	"banksman/api"
	"banksman/rival"
)

// one is a span as its table, and a key (0a), two ends (0ac), one and no other (0a-), or nothing (0), for all of it.
func one(word string) api.Span {
	table, ends := int(word[0]-'0'), word[1:]
	switch {
	case ends == "":
		return api.Span{Table: table, Open: true}
	case len(ends) == 1:
		return api.Span{Table: table, Lo: []byte(ends), Hi: []byte(ends + "\x00")}
	case ends[1] == '-':
		return api.Span{Table: table, Lo: []byte(ends[:1]), Open: true}
	}
	return api.Span{Table: table, Lo: []byte(ends[:1]), Hi: []byte(ends[1:])}
}

// list are spans, each as one has it; writes are some, each as its table, and its key.
func list(words string) []api.Span {
	var l []api.Span
	for _, w := range strings.Fields(words) {
		l = append(l, one(w))
	}
	return l
}
func writes(words string) []api.Write {
	var l []api.Write
	for i, w := range strings.Fields(words) {
		l = append(l, api.Write{Table: int(w[0] - '0'), Key: []byte(w[1:]), Gone: i%2 == 1, Value: []byte("v")})
	}
	return l
}

// did is one who committed at a stamp, with what it read, and wrote; overtaken is one whose Out is true.
func did(stamp int, read, wrote string) api.Past {
	return api.Past{Snap: stamp - 1, Stamp: stamp, Reads: list(read), Writes: writes(wrote)}
}
func overtaken(p api.Past) api.Past {
	p.Out = true
	return p
}

// reading are who run, each with what it read.
func reading(words ...string) []api.Live {
	var l []api.Live
	for i, w := range words {
		l = append(l, api.Live{Snap: i * 5, Reads: list(w)})
	}
	return l
}

// past are who committed at stamps, each with what only it has.
func past(stamps ...int) []api.Past {
	var l []api.Past
	for i, s := range stamps {
		l = append(l, api.Past{Snap: 100 - i, Stamp: s, Held: i%2 == 0, Reads: list(fmt.Sprintf("%da 1bd", i%4)), Writes: writes(fmt.Sprintf("%dk 2l", i%4)), Out: i%3 == 0})
	}
	return l
}

// tells are what there is to say of spans, of writes, and of who committed and who run; those in the lists' spare room, too.
func tellSpans(l []api.Span) string {
	var b []byte
	for _, x := range l[:cap(l)] {
		b = fmt.Appendf(b, "%d %q %q %v, ", x.Table, x.Lo[:cap(x.Lo)], x.Hi[:cap(x.Hi)], x.Open)
	}
	return string(b)
}
func tellWrites(l []api.Write) string {
	var b []byte
	for _, w := range l[:cap(l)] {
		b = fmt.Appendf(b, "%d %q %v %q, ", w.Table, w.Key[:cap(w.Key)], w.Gone, w.Value[:cap(w.Value)])
	}
	return string(b)
}
func tell(l []api.Past, run []api.Live) string {
	var b []byte
	for _, p := range l[:cap(l)] {
		b = fmt.Appendf(b, "%d %d %v %v (%s) (%s) ", p.Snap, p.Stamp, p.Held, p.Out, tellSpans(p.Reads), tellWrites(p.Writes))
	}
	for _, x := range run[:cap(run)] {
		b = fmt.Appendf(b, "%d (%s) ", x.Snap, tellSpans(x.Reads))
	}
	return string(b)
}

// words are those of what is there alone, whatever the spare room.
func words(l []api.Past) string {
	var b []byte
	for _, p := range l {
		b = fmt.Appendf(b, "%d %d %v %v (", p.Snap, p.Stamp, p.Held, p.Out)
		for _, x := range p.Reads {
			b = fmt.Appendf(b, "%d %q %q %v, ", x.Table, x.Lo, x.Hi, x.Open)
		}
		b = append(b, ") ("...)
		for _, w := range p.Writes {
			b = fmt.Appendf(b, "%d %q %v %q, ", w.Table, w.Key, w.Gone, w.Value)
		}
		b = append(b, ") "...)
	}
	return string(b)
}

// named are all of a map, in its names' order.
func named[T any](m map[string]T) func(yield func(string, T) bool) {
	return func(yield func(string, T) bool) {
		for _, k := range slices.Sorted(maps.Keys(m)) {
			if !yield(k, m[k]) {
				return
			}
		}
	}
}

// within tells whether a write is of a span's key, by chapter 10's words; hits whether one of them is of what was read, by chapter 13's.
func within(x api.Span, w api.Write) bool {
	return w.Table == x.Table && bytes.Compare(w.Key, x.Lo) >= 0 && (x.Open || bytes.Compare(w.Key, x.Hi) < 0)
}
func hits(l []api.Span, w []api.Write) bool {
	for _, x := range l {
		for _, y := range w {
			if within(x, y) {
				return true
			}
		}
	}
	return false
}

// same tells whether two lists of writes have a key in common, by chapter 13's words.
func same(a, b []api.Write) bool {
	for _, x := range a {
		for _, y := range b {
			if x.Table == y.Table && string(x.Key) == string(y.Key) {
				return true
			}
		}
	}
	return false
}

// judged is what Judge answers, by the chapter's words.
func judged(me api.Live, w []api.Write, l []api.Past, run []api.Live) (bool, api.Errno) {
	wrote, out, passed, read := false, false, false, false
	for _, p := range l {
		if p.Stamp <= me.Snap {
			continue
		}
		hit := hits(me.Reads, p.Writes)
		wrote = wrote || same(p.Writes, w)
		out = out || hit
		passed = passed || hit && p.Out
		read = read || hits(p.Reads, w)
	}
	for _, x := range run {
		read = read || hits(x.Reads, w)
	}
	if wrote || passed || out && read {
		return false, api.ErrRival
	}
	return out, api.OK
}

// P14.1
func TestMeets(t *testing.T) {
	for what, c := range named(map[string]struct {
		snap         int
		stamps, want []int
	}{
		"nobody committed":     {0, nil, nil},
		"behind it":            {3, []int{3, 4, 7}, []int{4, 7}},
		"all":                  {2, []int{3, 4, 7}, []int{3, 4, 7}},
		"none":                 {7, []int{3, 4, 7}, nil},
		"none by far":          {9, []int{3, 4, 7}, nil},
		"the last one":         {6, []int{3, 4, 7}, []int{7}},
		"that do not rise":     {3, []int{7, 2, 9, 3, 8}, []int{7, 9, 8}},
		"that fall":            {6, []int{9, 7, 5}, []int{9, 7}},
		"of one stamp":         {3, []int{4, 4, 3, 4}, []int{4, 4, 4}},
		"0":                    {0, []int{0, 1}, []int{1}},
		"below 0":              {-2, []int{-3, -2, -1}, []int{-1}},
		"the least":            {math.MinInt, []int{math.MinInt, 0, math.MaxInt}, []int{0, math.MaxInt}},
		"the greatest":         {math.MaxInt, []int{math.MinInt, 0, math.MaxInt}, nil},
		"the greatest but one": {math.MaxInt - 1, []int{math.MinInt, math.MaxInt}, []int{math.MaxInt}},
		"of 32 bits":           {1<<32 + 4, []int{1 << 32, 1<<32 + 5, 7}, []int{1<<32 + 5}},
	}) {
		l := past(c.stamps...)
		var got []int
		var want []api.Past
		for _, p := range rival.Meets(c.snap, l) {
			got = append(got, p.Stamp)
		}
		for _, p := range l {
			if p.Stamp > c.snap {
				want = append(want, p)
			}
		}
		if !slices.Equal(got, c.want) || words(rival.Meets(c.snap, l)) != words(want) {
			t.Errorf("%s: %v", what, got)
		}
	}
}

// P14.1: its Snap, whether it was held, what it read, and wrote, and whether that may be, is nothing to it; and all of it stays.
func TestMeetsOfOthers(t *testing.T) {
	full := api.Past{Snap: -7, Stamp: 9, Held: true, Reads: []api.Span{{Table: -1, Lo: []byte("b"), Hi: []byte("a"), Open: true}, {}}, Writes: []api.Write{{Table: 9, Key: []byte("k"), Gone: true, Value: []byte("v")}, {}}, Out: true}
	l := []api.Past{{Stamp: 5}, full, {Snap: 4, Stamp: 4, Out: true}, {Snap: 8, Stamp: 8, Held: true}, {Snap: 9, Stamp: 1}}
	if got := rival.Meets(4, l); words(got) != words([]api.Past{l[0], full, l[3]}) {
		t.Errorf("%s", words(got))
	}
}

// P14.2: the chapter's example, and others; one that reads as of 3.
func TestJudge(t *testing.T) {
	for what, c := range named(map[string]struct {
		read, wrote string
		past        []api.Past
		live        []api.Live
		out         bool
		want        api.Errno
	}{
		"alone":                           {"0x", "0y", nil, nil, false, api.OK},
		"nothing":                         {"", "", nil, nil, false, api.OK},
		"the chapter's":                   {"0x", "0y", []api.Past{did(4, "0y", "0x")}, nil, false, api.ErrRival},
		"one ahead of it":                 {"0x", "0y", []api.Past{did(3, "0y", "0x 0y")}, nil, false, api.OK},
		"both wrote it":                   {"", "0y", []api.Past{did(4, "", "0y")}, nil, false, api.ErrRival},
		"both wrote it, of many":          {"", "1y 0y", []api.Past{did(4, "", "0z"), did(5, "", "2y 0y")}, nil, false, api.ErrRival},
		"wrote it ahead":                  {"", "0y", []api.Past{did(3, "", "0y")}, nil, false, api.OK},
		"wrote it in another table":       {"", "0y", []api.Past{did(4, "", "1y")}, nil, false, api.OK},
		"was hit":                         {"0x", "0y", []api.Past{did(4, "", "0x")}, nil, true, api.OK},
		"was hit, writes nothing":         {"0x", "", []api.Past{did(4, "0y", "0x")}, reading("0x 0y"), true, api.OK},
		"was hit ahead":                   {"0x", "0y", []api.Past{did(3, "", "0x")}, reading("0y"), false, api.OK},
		"was hit by the first one":        {"0x", "0y", []api.Past{did(4, "", "0x"), did(5, "", "0z")}, nil, true, api.OK},
		"was hit by the last one":         {"0x", "0y", []api.Past{did(4, "", "0z"), did(5, "", "0x")}, nil, true, api.OK},
		"hits":                            {"0x", "0y", []api.Past{did(4, "0y", "0z")}, reading("0y"), false, api.OK},
		"was hit, and hits another one":   {"0x", "0y", []api.Past{did(4, "", "0x"), did(5, "0y", "0z")}, nil, false, api.ErrRival},
		"hits one, and was hit behind":    {"0x", "0y", []api.Past{did(4, "0y", "0z"), did(5, "", "0x")}, nil, false, api.ErrRival},
		"was hit, and hits one ahead":     {"0x", "0y", []api.Past{did(4, "", "0x"), did(3, "0y", "0z")}, nil, true, api.OK},
		"was hit ahead, and hits one":     {"0x", "0y", []api.Past{did(3, "", "0x"), did(4, "0y", "0z")}, nil, false, api.OK},
		"was hit, and hits one who runs":  {"0x", "0y", []api.Past{did(4, "", "0x")}, reading("0z", "0y"), false, api.ErrRival},
		"was hit, and hits the first":     {"0x", "0y", []api.Past{did(4, "", "0x")}, reading("0y", "0z"), false, api.ErrRival},
		"was hit, and hits nobody":        {"0x", "0y", []api.Past{did(4, "0x", "0x")}, reading("0x", "0z", ""), true, api.OK},
		"was hit, and hits in another":    {"0x", "0y", []api.Past{did(4, "1y", "0x")}, reading("1y", "2"), true, api.OK},
		"was hit in another table":        {"0x", "0y", []api.Past{did(4, "0y", "1x")}, reading("0y"), false, api.OK},
		"by one overtaken":                {"0x", "0y", []api.Past{overtaken(did(4, "", "0x"))}, nil, false, api.ErrRival},
		"by one overtaken, reads only":    {"0x", "", []api.Past{overtaken(did(4, "", "0x"))}, nil, false, api.ErrRival},
		"by the last one, overtaken":      {"0x", "", []api.Past{did(4, "", "0x"), overtaken(did(5, "", "0x"))}, nil, false, api.ErrRival},
		"one overtaken, another one":      {"0x", "0y", []api.Past{did(4, "", "0x"), overtaken(did(5, "0z", "0z"))}, nil, true, api.OK},
		"one overtaken, ahead":            {"0x", "0y", []api.Past{overtaken(did(3, "", "0x"))}, nil, false, api.OK},
		"one overtaken, that it hits":     {"0x", "0y", []api.Past{overtaken(did(4, "0y", "0z"))}, nil, false, api.OK},
		"a span was hit":                  {"0bd", "0y", []api.Past{did(4, "", "0c")}, nil, true, api.OK},
		"a span's end":                    {"0bd", "0y", []api.Past{did(4, "0y", "0d")}, reading("0y"), false, api.OK},
		"a span is hit":                   {"0x", "0c", []api.Past{did(4, "0bd", "0x")}, nil, false, api.ErrRival},
		"a span of who runs":              {"0x", "0c", []api.Past{did(4, "", "0x")}, reading("0b-"), false, api.ErrRival},
		"ahead of a span of who runs":     {"0x", "0a", []api.Past{did(4, "0bd", "0x")}, reading("0b-"), true, api.OK},
		"what it reads and writes":        {"0x", "0x", []api.Past{did(4, "0x", "0z")}, reading("0x"), false, api.OK},
		"what it reads, by both":          {"0x", "0x", []api.Past{did(4, "", "0x")}, nil, false, api.ErrRival},
		"stamps that do not rise":         {"0x", "0y", []api.Past{did(9, "0y", ""), did(2, "", "0x"), did(4, "", "0x")}, nil, false, api.ErrRival},
		"stamps that do not rise, no hit": {"0x", "0y", []api.Past{did(9, "0y", ""), did(2, "", "0x"), did(3, "", "0x")}, nil, false, api.OK},
		"gone and gone again":             {"", "0a 0y", []api.Past{did(4, "", "0b 0y")}, nil, false, api.ErrRival},
	}) {
		out, e := rival.Judge(api.Live{Snap: 3, Reads: list(c.read)}, writes(c.wrote), c.past, c.live)
		if out != c.out || e != c.want {
			t.Errorf("%s: %v, %d", what, out, e)
		}
	}
}

// P14.2: what those who committed read as of, and whether they were held, is nothing to it, nor what those who run read as of.
func TestJudgeOfOthers(t *testing.T) {
	for _, n := range []int{math.MinInt, -1, 0, 3, 4, 5, 1 << 32, math.MaxInt} {
		for _, held := range []bool{false, true} {
			p := []api.Past{{Snap: n, Stamp: 5, Held: held, Reads: list("0y"), Writes: writes("0x")}}
			run := []api.Live{{Snap: n, Reads: list("0z")}}
			for _, c := range []struct {
				read, wrote string
				out         bool
				want        api.Errno
			}{
				{"0x", "0a", true, api.OK}, {"0x", "0y", false, api.ErrRival}, {"0x", "0z", false, api.ErrRival}, {"0a", "0x", false, api.ErrRival}, {"0a", "0y 0z", false, api.OK},
			} {
				if out, e := rival.Judge(api.Live{Snap: 4, Reads: list(c.read)}, writes(c.wrote), p, run); out != c.out || e != c.want {
					t.Errorf("%d, %v, %s, %s: %v, %d", n, held, c.read, c.wrote, out, e)
				}
			}
		}
	}
}

// P14.2: what may not be read, or written, is compared like all else, and stamps may be any.
func TestJudgeOfWrong(t *testing.T) {
	for _, n := range []int{math.MinInt, -257, -1, 4, 256, 1 << 32, math.MaxInt} {
		x, y := []byte("x"), bytes.Repeat([]byte("y"), 40)
		me := api.Live{Snap: -2, Reads: []api.Span{{Table: n, Lo: x, Hi: []byte("a"), Open: true}}}
		w := []api.Write{{Table: n, Key: y, Gone: true, Value: y}}
		at := func(stamp int, read []api.Span, w ...api.Write) []api.Past {
			return []api.Past{{Stamp: stamp, Reads: read, Writes: w}}
		}
		for what, c := range named(map[string]struct {
			past []api.Past
			out  bool
			want api.Errno
		}{
			"hit":              {at(-1, nil, api.Write{Table: n, Key: x}), true, api.OK},
			"hit ahead":        {at(-2, nil, api.Write{Table: n, Key: x}), false, api.OK},
			"hit far ahead":    {at(math.MinInt, nil, api.Write{Table: n, Key: x}), false, api.OK},
			"hit far behind":   {at(math.MaxInt, nil, api.Write{Table: n, Key: x}), true, api.OK},
			"another table":    {at(-1, nil, api.Write{Table: n + 1, Key: x}), false, api.OK},
			"both wrote it":    {at(-1, nil, api.Write{Table: n, Key: y}), false, api.ErrRival},
			"a shorter one":    {at(-1, nil, api.Write{Table: n, Key: y[1:]}), true, api.OK},
			"hit, and hits":    {at(-1, me.Reads, api.Write{Table: n, Key: x}), false, api.ErrRival},
			"hit, hits no key": {at(-1, []api.Span{{Table: n, Lo: y, Hi: x}}, api.Write{Table: n, Key: x}), true, api.OK},
		}) {
			if out, e := rival.Judge(me, w, c.past, nil); out != c.out || e != c.want {
				t.Errorf("%d, %s: %v, %d", n, what, out, e)
			}
		}
	}
	for _, c := range []struct{ snap, stamp int }{{math.MinInt, math.MinInt + 1}, {math.MaxInt - 1, math.MaxInt}, {math.MinInt, math.MaxInt}, {1<<32 - 1, 1 << 32}} {
		p := []api.Past{did(c.stamp, "", "0x")}
		met, e := rival.Judge(api.Live{Snap: c.snap, Reads: list("0x")}, nil, p, nil)
		not, f := rival.Judge(api.Live{Snap: c.stamp, Reads: list("0x")}, nil, p, nil)
		if !met || not || e != api.OK || f != api.OK {
			t.Errorf("%d, %d: %v, %v", c.snap, c.stamp, met, not)
		}
	}
}

// P14.2, P14.4: all that read and write some of two keys, with all of up to two who committed, and of up to one who runs.
func TestJudgeOfAll(t *testing.T) {
	some := []string{"", "0a", "0b", "0a 0b"}
	var pasts [][]api.Past
	for _, stamp := range []int{3, 4} {
		for _, read := range some {
			for _, wrote := range some {
				p := did(stamp, read, wrote)
				pasts = append(pasts, []api.Past{p}, []api.Past{overtaken(p)})
			}
		}
	}
	for _, a := range slices.Clone(pasts) {
		for _, b := range pasts[:len(some)*len(some)*4] {
			pasts = append(pasts, slices.Concat(a, b))
		}
	}
	pasts = append(pasts, nil)
	lives := [][]api.Live{nil}
	for _, read := range some {
		lives = append(lives, reading(read))
	}
	for _, read := range some {
		for _, wrote := range some {
			me, w := api.Live{Snap: 3, Reads: list(read)}, writes(wrote)
			for _, l := range pasts {
				for _, run := range lives {
					want, f := judged(me, w, l, run)
					if out, e := rival.Judge(me, w, l, run); out != want || e != f {
						t.Fatalf("(%s) (%s), beside %s: %v, %d, for %v, %d", read, wrote, tell(l, run), out, e, want, f)
					}
					free := true
					for _, p := range l {
						free = free && (p.Stamp <= 3 || !hits(me.Reads, p.Writes) && !same(p.Writes, w))
					}
					if free && (want || f != api.OK) {
						t.Fatalf("(%s) (%s), beside %s: %v, %d", read, wrote, tell(l, run), want, f)
					}
				}
			}
		}
	}
}

// turn is who is to commit: as of which stamp behind those who did it reads (held: of all), what it reads, and writes.
type turn struct {
	back  int
	held  bool
	reads []api.Span
	w     []api.Write
}

// history is who commits of turns, each judged with those ahead, and those of the ones behind that known picks, with what it picks of their reads; and how many were told ErrRival.
func history(turns []turn, known func(of, x int) ([]api.Span, bool)) ([]api.Past, int) {
	var l []api.Past
	sent := 0
	for i, x := range turns {
		p := api.Past{Snap: max(0, len(l)-x.back), Stamp: len(l) + 1, Held: x.held, Reads: x.reads, Writes: x.w}
		if !x.held {
			var run []api.Live
			for j := i + 1; j < len(turns); j++ {
				if seen, is := known(i, j); is {
					run = append(run, api.Live{Snap: max(0, len(l)-turns[j].back), Reads: seen})
				}
			}
			out, e := rival.Judge(api.Live{Snap: p.Snap, Reads: p.Reads}, p.Writes, l, run)
			if e != api.OK {
				sent++
				continue
			}
			p.Out = out
		}
		l = append(l, p)
	}
	return l, sent
}

// asOf is the stamp as of which one reads, by the chapter's words.
func asOf(p api.Past) int {
	if p.Held {
		return p.Stamp - 1
	}
	return p.Snap
}

// steps tells from whom to whom P14.3's steps go.
func steps(l []api.Past) [][]bool {
	to := make([][]bool, len(l))
	for i, p := range l {
		to[i] = make([]bool, len(l))
		for j, q := range l {
			switch {
			case i == j:
			case p.Stamp < q.Stamp && same(p.Writes, q.Writes):
				to[i][j] = true
			case p.Stamp <= asOf(q) && hits(q.Reads, p.Writes):
				to[i][j] = true
			case q.Stamp > asOf(p) && hits(p.Reads, q.Writes):
				to[i][j] = true
			}
		}
	}
	return to
}

// ring tells whether a way leads from one to itself.
func ring(to [][]bool) bool {
	for k := range to {
		for i := range to {
			for j := range to {
				to[i][j] = to[i][j] || to[i][k] && to[k][j]
			}
		}
	}
	for i := range to {
		if to[i][i] {
			return true
		}
	}
	return false
}

// stands tells whether, in some order, each reads of each key what it reads of the ones ahead, and the last to write is who committed last.
func stands(l []api.Past, keys []api.Write) bool {
	// last is who wrote a key last, of the first ones of l up to a stamp.
	last := func(k api.Write, stamp int) int {
		who := -1
		for i, p := range l {
			if p.Stamp <= stamp && same(p.Writes, []api.Write{k}) {
				who = i
			}
		}
		return who
	}
	var place func(now []int, rest []int) bool
	place = func(now []int, rest []int) bool {
		if len(rest) == 0 {
			for k, w := range keys {
				if now[k] != last(w, math.MaxInt) {
					return false
				}
			}
			return true
		}
		for n, i := range rest {
			next, fits := slices.Clone(now), true
			for k, w := range keys {
				fits = fits && (!hits(l[i].Reads, keys[k:k+1]) || now[k] == last(w, asOf(l[i])))
				if same(l[i].Writes, []api.Write{w}) {
					next[k] = i
				}
			}
			if fits && place(next, slices.Delete(slices.Clone(rest), n, n+1)) {
				return true
			}
		}
		return false
	}
	now, rest := make([]int, len(keys)), make([]int, len(l))
	for k := range now {
		now[k] = -1
	}
	for i := range rest {
		rest[i] = i
	}
	return place(now, rest)
}

// P14.3: all turns of three that read and write some of two keys, held or not, with nobody, all and some known of those behind.
func TestOrderOfThree(t *testing.T) {
	keys := writes("0a 0b")
	some := [][]api.Write{nil, keys[:1], keys[1:], keys}
	spans := [][]api.Span{nil, list("0a"), list("0b"), list("0")}
	var kinds []turn
	for _, r := range spans {
		for _, w := range some {
			kinds = append(kinds, turn{reads: r, w: w}, turn{reads: r, w: w, held: true})
		}
	}
	all, sent, out := 0, 0, 0
	try := func(turns []turn, seen int) {
		l, n := history(turns, func(of, x int) ([]api.Span, bool) { return turns[x].reads, seen == 1 || seen == 2 && x == 2 })
		all, sent = all+1, sent+n
		for _, p := range l {
			if p.Out {
				out++
			}
		}
		if ring(steps(l)) || !stands(l, keys) {
			t.Fatalf("known %d: %s", seen, tell(l, nil))
		}
	}
	for _, a := range kinds {
		for _, b := range kinds {
			for _, c := range kinds {
				for back := range 6 {
					b.back, c.back = back%2, back/2
					for seen := range 3 {
						try([]turn{a, b, c}, seen)
					}
				}
			}
		}
	}
	if all != 32*32*32*18 || sent == 0 || out == 0 {
		t.Errorf("of %d, %d were sent away, %d overtaken", all, sent, out)
	}
}

// P14.3: up to eight that read spans, and write some, of keys of two tables; those judged know any of those behind, with any of what they will have read.
func TestOrderOfMany(t *testing.T) {
	words := strings.Fields("0a 0b 0c 0d 1a 1b 0ac 0bd 0b- 1 0 1b-")
	keys := strings.Fields("0a 0b 0c 0d 1a 1b")
	sent, out := 0, 0
	for seed := range 40000 {
		n := uint32(seed*7919 + 1)
		next := func(below int) int {
			n = n*1664525 + 1013904223
			return int(n>>16) % below
		}
		turns := make([]turn, 3+next(6))
		wide, narrow := 1+next(len(words)), 1+next(len(keys))
		for i := range turns {
			turns[i].back, turns[i].held = next(len(turns)+1), next(6) == 0
			for range next(3) {
				turns[i].reads = append(turns[i].reads, one(words[next(wide)]))
			}
			for range next(3) {
				turns[i].w = append(turns[i].w, writes(keys[next(narrow)])...)
			}
		}
		less := next(3)
		l, m := history(turns, func(of, x int) ([]api.Span, bool) {
			seen := turns[x].reads
			return seen[:next(len(seen)+1)], less == 0 || less == 1 && next(2) == 0
		})
		sent += m
		for _, p := range l {
			if p.Out {
				out++
			}
		}
		if ring(steps(l)) {
			t.Fatalf("seed %d: %s", seed, tell(l, nil))
		}
	}
	if sent < 1000 || out < 1000 {
		t.Errorf("%d were sent away, %d overtaken", sent, out)
	}
}

// P14.3: each of its rules is needed: those who stand in no order are told apart.
func TestRingsAreSeen(t *testing.T) {
	for what, c := range named(map[string]struct {
		l    []api.Past
		want bool
	}{
		"one that reads and writes": {[]api.Past{did(1, "0a", "0a")}, false},
		"each read what was there":  {[]api.Past{did(1, "0a", "0b"), did(2, "0b", "0a")}, false},
		"each overtook the other":   {[]api.Past{{Stamp: 1, Reads: list("0a"), Writes: writes("0b")}, {Stamp: 2, Reads: list("0b"), Writes: writes("0a")}}, true},
		"the same, the last held":   {[]api.Past{{Stamp: 1, Reads: list("0a"), Writes: writes("0b")}, {Stamp: 2, Held: true, Reads: list("0b"), Writes: writes("0a")}}, false},
		"one lost":                  {[]api.Past{{Stamp: 1, Reads: list("0a"), Writes: writes("0a")}, {Stamp: 2, Reads: list("0a"), Writes: writes("0a")}}, true},
		"over who read alone":       {[]api.Past{{Stamp: 1, Writes: writes("0b")}, {Snap: 1, Stamp: 2, Reads: list("0a 0b")}, {Stamp: 3, Reads: list("0b"), Writes: writes("0a")}}, true},
	}) {
		if got := ring(steps(c.l)); got != c.want || stands(c.l, writes("0a 0b")) == c.want {
			t.Errorf("%s: %v", what, got)
		}
	}
}

// P14.4: whoever runs, and whatever those who committed read, and whether they were overtaken.
func TestFree(t *testing.T) {
	for what, c := range named(map[string]struct{ read, wrote, read1, wrote1, read2, wrote2, run string }{
		"that reads alone":   {"0a", "", "0a", "0b", "0a", "0c", "0a"},
		"that writes alone":  {"", "0a 0b", "0a", "0c", "0b", "0d", "0a 0b"},
		"all that reads it":  {"0a", "0b", "0b", "0c", "0", "0d", "0b"},
		"of another table":   {"0", "0b", "0b", "1b", "0", "2", "0"},
		"beside what it has": {"0bd", "0b", "0bd", "0a", "0bd", "0d", "0b-"},
	}) {
		for _, out := range []bool{false, true} {
			l := []api.Past{{Stamp: 2, Reads: list("0"), Writes: writes("0a 0b 0c"), Out: out}, {Stamp: 3, Reads: list(c.read1), Writes: writes(c.wrote1), Out: out}, {Stamp: 4, Held: out, Reads: list(c.read2), Writes: writes(c.wrote2), Out: !out}}
			if is, e := rival.Judge(api.Live{Snap: 2, Reads: list(c.read)}, writes(c.wrote), l, reading(c.run, "0", "1", "2")); is || e != api.OK {
				t.Errorf("%s: %v, %d", what, is, e)
			}
		}
	}
}

// R1: long lists, and texts.
func TestLong(t *testing.T) {
	many, more := make([]api.Span, 1<<20), make([]api.Write, 1<<20)
	l, run := make([]api.Past, 1<<20), make([]api.Live, 1<<20)
	for i := range l {
		many[i], more[i] = one("1a"), api.Write{Table: 2}
		l[i].Stamp, run[i].Snap = i, i
	}
	if got := rival.Meets(1, l); len(got) != 1<<20-2 || got[0].Stamp != 2 {
		t.Errorf("%d met it", len(got))
	}
	me, w := api.Live{Reads: list("0a")}, writes("0b")
	if out, e := rival.Judge(me, w, l, run); out || e != api.OK {
		t.Errorf("nobody of many: %v, %d", out, e)
	}
	l[1<<20-1].Writes = writes("0a")
	if out, e := rival.Judge(me, w, l, run); !out || e != api.OK {
		t.Errorf("the last of many: %v, %d", out, e)
	}
	run[1<<20-1].Reads = list("0b")
	if out, e := rival.Judge(me, w, l, run); out || e != api.ErrRival {
		t.Errorf("the last of many who run: %v, %d", out, e)
	}
	p := []api.Past{{Stamp: 1, Reads: many, Writes: writes("3")}}
	if out, e := rival.Judge(api.Live{Reads: many}, writes("0a 1b"), p, []api.Live{{Reads: many}}); out || e != api.OK {
		t.Errorf("many spans: %v, %d", out, e)
	}
	p = []api.Past{{Stamp: 1, Reads: list("3"), Writes: more}}
	if out, e := rival.Judge(api.Live{Reads: list("2")}, writes("2b 1"), p, nil); !out || e != api.OK {
		t.Errorf("many writes: %v, %d", out, e)
	}
	long := bytes.Repeat([]byte("k"), 1<<20)
	p = []api.Past{{Stamp: 1, Reads: []api.Span{{Lo: long, Open: true}}, Writes: []api.Write{{Key: long, Value: long}}}}
	if out, e := rival.Judge(api.Live{Reads: []api.Span{{Lo: long, Open: true}}}, []api.Write{{Key: long[1:]}}, p, nil); !out || e != api.OK {
		t.Errorf("a long key: %v, %d", out, e)
	}
}

// spare is a list in memory of its own, with room behind it, in which something stands.
func spare[T any](l []T, more T) []T {
	return append(append(make([]T, 0, len(l)+1), l...), more)[:len(l)]
}

// The twins are lists in memory of their own, each, and each of theirs, with spare room.
func twinSpans(l []api.Span) []api.Span {
	l = spare(l, one("0"))
	for i, x := range l {
		l[i].Lo, l[i].Hi = spare(x.Lo, 'z'), spare(x.Hi, 'z')
	}
	return l
}
func twinWrites(l []api.Write) []api.Write {
	l = spare(l, writes("0a")[0])
	for i, w := range l {
		l[i].Key, l[i].Value = spare(w.Key, 'z'), spare(w.Value, 'z')
	}
	return l
}
func twinPast(l []api.Past) []api.Past {
	l = spare(l, overtaken(did(99, "0", "0a 0b")))
	for i, p := range l {
		l[i].Reads, l[i].Writes = twinSpans(p.Reads), twinWrites(p.Writes)
	}
	return l
}
func twinLive(l []api.Live) []api.Live {
	l = spare(l, reading("0")[0])
	for i, x := range l {
		l[i].Reads = twinSpans(x.Reads)
	}
	return l
}

// The spoilers write something into all of a list, and of its spare room.
func spoilSpans(l []api.Span) {
	for i, x := range l[:cap(l)] {
		clear(x.Lo[:cap(x.Lo)])
		clear(x.Hi[:cap(x.Hi)])
		l[:cap(l)][i] = api.Span{Table: -9}
	}
}
func spoilPast(l []api.Past) {
	for i, p := range l[:cap(l)] {
		spoilSpans(p.Reads)
		for j, w := range p.Writes[:cap(p.Writes)] {
			clear(w.Key[:cap(w.Key)])
			clear(w.Value[:cap(w.Value)])
			p.Writes[:cap(p.Writes)][j] = api.Write{Table: -9}
		}
		l[:cap(l)][i] = api.Past{Stamp: -9}
	}
}

// room is where a list stands, with its spare room; at is that of a list, none of one without any.
type room struct{ from, to uintptr }

func at[T any](l []T) []room {
	if cap(l) == 0 {
		return nil
	}
	var x T
	from := uintptr(unsafe.Pointer(unsafe.SliceData(l)))
	return []room{{from, from + uintptr(cap(l))*unsafe.Sizeof(x)}}
}
func atPast(l []api.Past) []room {
	all := at(l)
	for _, p := range l[:cap(l)] {
		all = slices.Concat(all, at(p.Reads), at(p.Writes))
		for _, x := range p.Reads[:cap(p.Reads)] {
			all = slices.Concat(all, at(x.Lo), at(x.Hi))
		}
		for _, w := range p.Writes[:cap(p.Writes)] {
			all = slices.Concat(all, at(w.Key), at(w.Value))
		}
	}
	return all
}

// apart tells whether no two of them share memory.
func apart(all []room) bool {
	slices.SortFunc(all, func(a, b room) int { return int(a.from) - int(b.from) })
	for i := 1; i < len(all); i++ {
		if all[i].from < all[i-1].to {
			return false
		}
	}
	return true
}

// cases are what is handed in: one, what it writes, who committed, and who run.
type cases struct {
	me  api.Live
	w   []api.Write
	l   []api.Past
	run []api.Live
}

func some() []cases {
	var all []cases
	lists := [][]api.Past{nil, past(3, 5, 4), past(1, 2, 3, 4), past(4, 3, 2, 1), {did(4, "0y", "0x")}, {did(4, "", "0x"), overtaken(did(5, "0y", "0z"))}, {{Stamp: 4}}}
	for _, snap := range []int{0, 3, 9} {
		for _, read := range []string{"", "0x", "0x 0y", "0 1b 2"} {
			for _, wrote := range []string{"", "0y", "1k 0y"} {
				for _, l := range lists {
					for _, run := range [][]api.Live{nil, reading("0a", "0y"), {{}}} {
						all = append(all, cases{api.Live{Snap: snap, Reads: list(read)}, writes(wrote), l, run})
					}
				}
			}
		}
	}
	return all
}

// twin is a case in memory of its own.
func (c cases) twin() cases {
	return cases{twinLive([]api.Live{c.me})[0], twinWrites(c.w), twinPast(c.l), twinLive(c.run)}
}

// tell is what there is to say of a case.
func (c cases) tell() string {
	return tell(nil, []api.Live{c.me}) + tellWrites(c.w) + tell(c.l, c.run)
}

// answers are what all calls answer, in words, and the list among these.
func (c cases) answers() (string, []api.Past) {
	out, e := rival.Judge(c.me, c.w, c.l, c.run)
	m := rival.Meets(c.me.Snap, c.l)
	return fmt.Sprint(out, e, words(m)), m
}

// R3, R4: nothing is written into what is handed in, or its spare room, by a call, or by who has its answers; what is answered stays, whatever becomes of what was handed in; and no two lists share memory.
func TestArgumentsAndAnswersStay(t *testing.T) {
	for _, c := range some() {
		own := c.twin()
		was := own.tell()
		want, _ := c.answers()
		told, m := own.answers()
		again, n := own.answers()
		if told != want || again != want {
			t.Fatalf("%s: %s, and %s, for %s", was, told, again, want)
		}
		if !apart(slices.Concat(atPast(m), atPast(n), atPast(own.l))) {
			t.Fatalf("%s: memory is shared", was)
		}
		spoilPast(n)
		if own.tell() != was {
			t.Fatalf("%s: what was handed in is changed", was)
		}
		stays := tell(m, nil)
		spoilPast(own.l)
		if tell(m, nil) != stays {
			t.Fatalf("%s: what was answered is changed", was)
		}
		// Memory that nobody has any more may be another one's.
		runtime.KeepAlive([]any{m, n, own})
	}
}

// R5: what was asked ahead, or beside, and whether an empty list is nil, is nothing to an answer.
func TestNothingElseMatters(t *testing.T) {
	var first []string
	all := some()
	for _, c := range all {
		told, _ := c.answers()
		first = append(first, told)
	}
	done := make(chan bool)
	for range 3 {
		go func() {
			for i, c := range slices.Backward(all) {
				if told, _ := c.answers(); told != first[i] {
					t.Errorf("%s: %s, ahead of it %s", c.tell(), told, first[i])
				}
			}
			done <- true
		}()
	}
	for range 3 {
		<-done
	}
	for _, stamp := range []int{0, 1} {
		full := cases{api.Live{Reads: []api.Span{}}, []api.Write{}, []api.Past{{Stamp: stamp, Reads: []api.Span{}, Writes: []api.Write{}}}, []api.Live{{Reads: []api.Span{}}}}
		x, _ := full.answers()
		y, _ := cases{l: []api.Past{{Stamp: stamp}}, run: []api.Live{{}}}.answers()
		if x != y {
			t.Errorf("%s, and %s", x, y)
		}
		full.l, full.run = []api.Past{}, []api.Live{}
		x, _ = full.answers()
		y, _ = cases{}.answers()
		if x != y {
			t.Errorf("%s, and %s", x, y)
		}
	}
}
