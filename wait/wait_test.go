package wait_test

import (
	"bytes"
	"fmt"
	"maps"
	"math"
	"runtime"
	"slices"
	"strconv"
	"strings"
	"testing"
	"unsafe"

	"banksman/api"
	"banksman/lock"
	"banksman/span"
	"banksman/wait"
)

// names are the modes' words, each with its number.
var names = map[string]int{"IS": api.IS, "IX": api.IX, "S": api.S, "SIX": api.SIX, "X": api.X}

// one is a lock as its owner, its mode, and its table, with, unless it is Whole, a key (0a), two ends (0ac), or one and no other (0a-).
func one(word string) api.Lock {
	part := strings.Split(word, ":")
	owner, _ := strconv.Atoi(part[0])
	table, ends := int(part[2][0]-'0'), part[2][1:]
	x := api.Lock{Owner: owner, Mode: names[part[1]], Span: api.Span{Table: table}}
	switch {
	case ends == "":
		x.Whole = true
	case len(ends) == 1:
		x.Span = span.Point(table, []byte(ends))
	case ends[1] == '-':
		x.Span.Lo, x.Span.Open = []byte(ends[:1]), true
	default:
		x.Span.Lo, x.Span.Hi = []byte(ends[:1]), []byte(ends[1:])
	}
	return x
}

// list are locks, each as one has it; locks are those held, and, behind a stroke, those waited for.
func list(words string) []api.Lock {
	var l []api.Lock
	for _, w := range strings.Fields(words) {
		l = append(l, one(w))
	}
	return l
}
func locks(words string) api.Locks {
	held, queue, _ := strings.Cut(words, "|")
	return api.Locks{Held: list(held), Queue: list(queue)}
}

// tell is what there is to say of locks, those in the lists' spare room, too.
func tell(l api.Locks) string {
	var b []byte
	for _, some := range [][]api.Lock{l.Held, l.Queue} {
		for _, x := range some[:cap(some)] {
			lo, hi := x.Span.Lo, x.Span.Hi
			b = fmt.Appendf(b, "%d %d %v %d %q %q %v, ", x.Owner, x.Mode, x.Whole, x.Span.Table, lo[:cap(lo)], hi[:cap(hi)], x.Span.Open)
		}
		b = append(b, "| "...)
	}
	return string(b)
}

// edges are those of a text: who waits and for whom, with a comma behind.
func edges(words string) [][2]int {
	var l [][2]int
	for _, w := range strings.Split(words, ",") {
		var e [2]int
		if n, _ := fmt.Sscan(w, &e[0], &e[1]); n == 2 {
			l = append(l, e)
		}
	}
	return l
}

// owners are the numbers of a text.
func owners(words string) []int {
	var l []int
	for _, w := range strings.Fields(words) {
		n, _ := strconv.Atoi(w)
		l = append(l, n)
	}
	return l
}

// named are all of a map, in its names' order.
func named[T any](m map[string]T) func(yield func(string, T) bool) {
	return func(yield func(string, T) bool) {
		for _, k := range slices.Sorted(maps.Keys(m)) {
			if !yield(k, m[k]) {
				return
			}
		}
	}
}

// others are numbers that no session has: those about the limits, those that look like one cut short, and the ends.
func others() []int {
	l := []int{math.MinInt, math.MinInt + 1, math.MinInt32, -257, -256, -255, -5, -4, -3, -2, -1, 4, 5, 6, 7, 8, 12, 15, 16, 63, 64, 255, 260, math.MaxInt32, math.MaxInt - 1, math.MaxInt}
	for n := range 4 {
		for _, bits := range []int{8, 16, 31, 32, 62} {
			l = append(l, n+1<<bits, n-1<<bits)
		}
	}
	return l
}

// graph are the edges among the four that a number's bits tell, rising.
func graph(bits int) [][2]int {
	var l [][2]int
	for i := range 16 {
		if bits>>i&1 == 1 {
			l = append(l, [2]int{i / 4, i % 4})
		}
	}
	return l
}

// led are all to whom a way of edges leads from one, by the chapter's words: each edge that begins where one ends is gone along, until there is no other one.
func led(edges [][2]int, from int) []int {
	sits := func(n int) bool { return n == 0 || n == 1 || n == 2 || n == 3 }
	var to []int
	for more := sits(from); more; {
		more = false
		for _, e := range edges {
			if sits(e[0]) && sits(e[1]) && (e[0] == from || slices.Contains(to, e[0])) && !slices.Contains(to, e[1]) {
				to = append(to, e[1])
				more = true
			}
		}
	}
	return to
}

// stuck are those from whom a way leads to themselves, and victim is the youngest of them, by the chapter's words.
func stuck(edges [][2]int) []int {
	var l []int
	for n := range 4 {
		if slices.Contains(led(edges, n), n) {
			l = append(l, n)
		}
	}
	return l
}
func victim(l []int, stamps [4]int) (int, bool) {
	for _, n := range slices.Backward(l) {
		if !slices.ContainsFunc(l, func(m int) bool { return stamps[m] > stamps[n] }) {
			return n, true
		}
	}
	return 0, false
}

// waits are the edges of locks, by P12.1.
func waits(l api.Locks) [][2]int {
	var all [][2]int
	for owner := range 4 {
		if lock.Waits(l, owner) {
			for _, other := range lock.Blockers(l, owner) {
				all = append(all, [2]int{owner, other})
			}
		}
	}
	return all
}

// P12.1
func TestEdges(t *testing.T) {
	for what, c := range named(map[string]struct{ l, want string }{
		"nothing":                 {"", ""},
		"one holds":               {"0:X:0", ""},
		"nobody waits":            {"0:X:0 1:X:1 2:S:2ac 3:S:2b", ""},
		"one waits":               {"0:X:0|1:S:0", "1 0"},
		"the last for the first":  {"0:X:0|3:S:0", "3 0"},
		"the first for the last":  {"3:X:0|0:S:0", "0 3"},
		"as they came":            {"0:X:0|1:S:0 2:S:0 3:S:0", "1 0, 2 0, 3 0"},
		"not as they came":        {"0:X:0|3:S:0 2:S:0 1:S:0", "1 0, 2 0, 3 0"},
		"for three":               {"3:S:0 1:IS:0 0:S:0|2:X:0", "2 0, 2 1, 2 3"},
		"for two of three":        {"3:S:0 1:IS:0 0:S:0|2:IX:0", "2 0, 2 3"},
		"for who waits ahead":     {"0:X:0|1:S:0 2:S:0 3:X:0", "1 0, 2 0, 3 0, 3 1, 3 2"},
		"for who waits, turned":   {"3:X:0|2:S:0 1:S:0 0:X:0", "0 1, 0 2, 0 3, 1 3, 2 3"},
		"for who waits alone":     {"0:S:0|3:X:0 1:IS:0", "1 3, 3 0"},
		"not for who is behind":   {"0:X:0|2:S:0 1:X:0", "1 0, 1 2, 2 0"},
		"one of many locks, once": {"1:S:0a 1:S:0b 1:S:0c|0:X:0ac", "0 1"},
		"who holds, and waits":    {"0:X:0 1:X:1 2:X:1a|0:X:1 2:S:0", "0 1, 2 0"},
		"two, stuck":              {"0:X:0 1:X:1|0:X:1 1:X:0", "0 1, 1 0"},
		"two, stuck, of one":      {"0:S:0 1:S:0|1:SIX:0 0:SIX:0", "0 1, 1 0"},
		"stuck over the queue":    {"0:X:0|1:X:0 0:IS:0", "0 1, 1 0"},
		"four, stuck":             {"0:X:0a 1:X:0b 2:X:0c 3:X:0d|0:S:0b 1:S:0c 2:S:0d 3:S:0a", "0 1, 1 2, 2 3, 3 0"},
		"two tables":              {"0:X:0 2:X:1|1:X:0 3:X:1", "1 0, 3 2"},
		"who has no lock waits":   {"0:X:3a-|2:S:3b", "2 0"},
	}) {
		l := locks(c.l)
		if !lock.Check(l) {
			t.Errorf("%s: these may not be", what)
		}
		if got := wait.Edges(l); !slices.Equal(got, edges(c.want)) || !slices.Equal(got, waits(l)) {
			t.Errorf("%s: %v", what, got)
		}
	}
}

// wrong are locks that may not be, though some of them wait for others.
func wrong() map[string]api.Locks {
	many := locks("0:X:0|1:S:0 2:S:0")
	for range 38 {
		many.Held = append(many.Held, one("0:S:1a"))
	}
	all := map[string]api.Locks{
		"two that clash":       locks("0:X:0 1:X:0|2:S:0"),
		"two of one":           locks("0:X:0 0:IS:0|2:S:0"),
		"one waits twice":      locks("0:X:0 0:X:1|1:S:0 1:S:1"),
		"one waits for nobody": locks("0:X:0|1:S:0 2:S:1"),
		"waits for itself":     locks("0:X:0|0:S:0"),
		"no mode":              locks("0:X:0 3::1|1:S:0"),
		"no mode, waited for":  locks("0:X:0|1:S:0 2::0"),
		"SIX of a part":        locks("0:X:0 3:SIX:1a|1:S:0"),
		"a turned part":        locks("0:X:0 3:S:1ca|1:S:0"),
		"table 4":              locks("0:X:4|1:S:4"),
		"41":                   many,
	}
	for _, n := range others() {
		word := strconv.Itoa(n)
		all["one of "+word+" is held"] = locks(word + ":X:0|1:S:0")
		all["one of "+word+" waits"] = locks("0:X:0|" + word + ":S:0 1:S:0")
		all["one of "+word+" beside"] = locks("0:X:0 " + word + ":X:1|1:S:0")
	}
	return all
}

// P12.1: of locks that may not be, nothing is told of anybody.
func TestEdgesOfWrong(t *testing.T) {
	for what, l := range named(wrong()) {
		if got := wait.Edges(l); lock.Check(l) || len(got) > 0 {
			t.Errorf("%s: %v", what, got)
		}
	}
	full := wrong()["41"]
	full.Held = full.Held[1:]
	full.Held[0] = one("0:X:0")
	if got := wait.Edges(full); !slices.Equal(got, edges("1 0, 2 0")) {
		t.Errorf("of 40: %v", got)
	}
}

// P12.2: the chapter's example, and others.
func TestStuck(t *testing.T) {
	for what, c := range named(map[string]struct{ e, want string }{
		"nothing":              {"", ""},
		"the chapter's":        {"0 1, 1 0, 2 0", "0 1"},
		"one edge":             {"0 1", ""},
		"one, and back":        {"1 3, 3 1", "1 3"},
		"one's own":            {"2 2", "2"},
		"the first's own":      {"0 0", "0"},
		"the last's own":       {"3 3", "3"},
		"a row":                {"0 1, 1 2, 2 3", ""},
		"a row, down":          {"3 2, 2 1, 1 0", ""},
		"a row, and all":       {"0 1, 0 2, 0 3, 1 2, 1 3, 2 3", ""},
		"three":                {"0 1, 1 2, 2 0", "0 1 2"},
		"three, down":          {"2 1, 1 0, 0 2", "0 1 2"},
		"three, the last ones": {"3 1, 1 2, 2 3", "1 2 3"},
		"four":                 {"0 1, 1 2, 2 3, 3 0", "0 1 2 3"},
		"four, across":         {"0 3, 3 1, 1 2, 2 0", "0 1 2 3"},
		"four, down":           {"0 3, 3 2, 2 1, 1 0", "0 1 2 3"},
		"two of two":           {"0 2, 2 0, 1 3, 3 1", "0 1 2 3"},
		"waits for one, stuck": {"0 1, 1 2, 2 1", "1 2"},
		"stuck waits for one":  {"1 2, 2 1, 2 3", "1 2"},
		"between two that are": {"0 0, 0 1, 1 2, 2 2", "0 2"},
		"the same one twice":   {"0 1, 0 1", ""},
		"twice, and back":      {"3 0, 3 0, 0 3, 0 3", "0 3"},
		"over 4":               {"0 4, 4 0", ""},
		"over -1":              {"0 -1, -1 0", ""},
		"over 4, and another":  {"0 4, 4 1, 1 0", ""},
		"those of 4, and -1":   {"4 4, -1 -1, 4 -1, -1 4", ""},
		"beside 4":             {"0 4, 0 1, 4 0, 1 0", "0 1"},
		"4 waits for one":      {"4 2, 2 2", "2"},
	}) {
		if got := wait.Stuck(edges(c.e)); !slices.Equal(got, owners(c.want)) {
			t.Errorf("%s: %v", what, got)
		}
	}
}

// P12.2: all edges among the four, in several orders, once and twice.
func TestStuckOfAll(t *testing.T) {
	for bits := range 1 << 16 {
		l := graph(bits)
		want := stuck(l)
		if got := wait.Stuck(l); !slices.Equal(got, want) {
			t.Fatalf("%v: %v", l, got)
		}
		turned := slices.Clone(l)
		slices.Reverse(turned)
		twice := slices.Concat(l, turned)
		far := slices.Clone(l)
		slices.SortFunc(far, func(a, b [2]int) int { return (a[0]*7+a[1]*5)%11 - (b[0]*7+b[1]*5)%11 })
		for _, m := range [][][2]int{turned, twice, far} {
			if got := wait.Stuck(m); !slices.Equal(got, want) {
				t.Fatalf("%v: %v", m, got)
			}
		}
	}
}

// P12.2: numbers that no session has stand in no way, wherever they are.
func TestStuckOfOthers(t *testing.T) {
	for _, n := range others() {
		for m := range 4 {
			back := [][2]int{{m, n}, {n, m}}
			if got := wait.Stuck(back); len(got) > 0 {
				t.Errorf("%v: %v", back, got)
			}
			over := [][2]int{{m, n}, {n, (m + 1) % 4}, {(m + 1) % 4, m}}
			if got := wait.Stuck(over); len(got) > 0 {
				t.Errorf("%v: %v", over, got)
			}
			for _, k := range others() {
				row := [][2]int{{m, n}, {n, k}, {k, n}, {k, k}, {k, m}}
				if got := wait.Stuck(row); len(got) > 0 {
					t.Errorf("%v: %v", row, got)
				}
			}
		}
		for bits := 0; bits < 1<<16; bits += 97 {
			l := graph(bits)
			m := slices.Insert(slices.Clone(l), len(l)/2, [2]int{n, n}, [2]int{n, bits % 4}, [2]int{bits / 4 % 4, n})
			v, is := wait.Victim(m, [4]int{4, 2, 9, 1})
			u, was := wait.Victim(l, [4]int{4, 2, 9, 1})
			if got := wait.Stuck(m); !slices.Equal(got, stuck(l)) || v != u || is != was {
				t.Fatalf("%v: %v, %d, %v", m, got, v, is)
			}
		}
	}
}

// P12.2
func TestVictim(t *testing.T) {
	for what, c := range named(map[string]struct {
		e      string
		stamps [4]int
		want   int
		is     bool
	}{
		"nothing":                  {"", [4]int{5, 7, 9, 7}, 0, false},
		"nobody":                   {"0 1, 1 2, 2 3", [4]int{5, 7, 9, 7}, 0, false},
		"nobody, the last waits":   {"3 0", [4]int{1, 2, 3, 4}, 0, false},
		"the chapter's":            {"0 1, 1 0, 2 0", [4]int{5, 7, 9, 7}, 1, true},
		"the first":                {"0 1, 1 0, 2 0", [4]int{8, 7, 9, 10}, 0, true},
		"one alone":                {"0 0", [4]int{1, 7, 9, 7}, 0, true},
		"of one stamp":             {"1 3, 3 1", [4]int{5, 7, 9, 7}, 3, true},
		"of one stamp, turned":     {"3 1, 1 3", [4]int{5, 7, 9, 7}, 3, true},
		"of one stamp, first two":  {"0 1, 1 0", [4]int{2, 2, 2, 2}, 1, true},
		"of one stamp, all":        {"0 1, 1 2, 2 3, 3 0", [4]int{}, 3, true},
		"of one stamp, three":      {"0 1, 1 2, 2 0, 3 0", [4]int{3, 3, 3, 3}, 2, true},
		"two of one are younger":   {"0 1, 1 2, 2 3, 3 0", [4]int{1, 6, 6, 1}, 2, true},
		"two of one are older":     {"0 1, 1 2, 2 3, 3 0", [4]int{6, 1, 1, 5}, 0, true},
		"younger by one":           {"0 3, 3 0", [4]int{8, 0, 0, 7}, 0, true},
		"below 0":                  {"0 3, 3 0", [4]int{-1, 0, 0, -2}, 0, true},
		"below 0, all":             {"0 1, 1 2, 2 0", [4]int{-3, -2, -1, 0}, 2, true},
		"the ends":                 {"0 1, 1 0", [4]int{math.MaxInt, math.MinInt, 0, 0}, 0, true},
		"the ends, turned":         {"0 1, 1 0", [4]int{math.MinInt, math.MaxInt, 0, 0}, 1, true},
		"the least ones":           {"0 2, 2 0", [4]int{math.MinInt, 0, math.MinInt, 0}, 2, true},
		"the greatest ones":        {"0 2, 2 0", [4]int{math.MaxInt, 0, math.MaxInt, 0}, 2, true},
		"the younger is not stuck": {"0 1, 1 0, 3 1, 1 2", [4]int{1, 2, 8, 9}, 1, true},
	}) {
		if v, is := wait.Victim(edges(c.e), c.stamps); v != c.want || is != c.is {
			t.Errorf("%s: %d, %v", what, v, is)
		}
	}
}

// P12.2: whoever is stuck, with stamps of all kinds, and with all edges among the four.
func TestVictimOfAll(t *testing.T) {
	some := []int{math.MinInt, -1, 0, 1, 7, math.MaxInt}
	for n := range 6 * 6 * 6 * 6 {
		stamps := [4]int{some[n%6], some[n/6%6], some[n/36%6], some[n/216]}
		for bits := range 1 << 4 {
			var l [][2]int
			for m := range 4 {
				if bits>>m&1 == 1 {
					l = append(l, [2]int{m, m})
				} else {
					l = append(l, [2]int{m, 3})
				}
			}
			v, is := wait.Victim(l, stamps)
			if want, ok := victim(stuck(l), stamps); v != want || is != ok {
				t.Fatalf("%v, %v: %d, %v", l, stamps, v, is)
			}
		}
	}
	for bits := range 1 << 16 {
		l := graph(bits)
		for _, stamps := range [][4]int{{1, 2, 3, 4}, {4, 3, 2, 1}, {2, 2, 1, 1}, {1, 5, 5, 2}, {}, {bits % 5, bits % 3, bits % 7, bits % 2}} {
			v, is := wait.Victim(l, stamps)
			if want, ok := victim(stuck(l), stamps); v != want || is != ok {
				t.Fatalf("%v, %v: %d, %v", l, stamps, v, is)
			}
		}
	}
}

// P12.3: without the edges of one who is stuck, none of those who were so over that one alone is; and who is stuck waits.
func TestWithoutOne(t *testing.T) {
	for bits := range 1 << 16 {
		l := graph(bits)
		for _, n := range wait.Stuck(l) {
			if !slices.ContainsFunc(l, func(e [2]int) bool { return e[0] == n }) {
				t.Fatalf("%v: %d does not wait", l, n)
			}
			left := slices.DeleteFunc(slices.Clone(l), func(e [2]int) bool { return e[0] == n || e[1] == n })
			if got := wait.Stuck(left); slices.Contains(got, n) || !slices.Equal(got, stuck(left)) {
				t.Fatalf("%v without %d: %v", l, n, got)
			}
		}
	}
}

// compare holds what is told of locks against the chapter's words.
func compare(t *testing.T, l api.Locks, stamps [4]int) {
	e := wait.Edges(l)
	if !slices.Equal(e, waits(l)) {
		t.Fatalf("%s: %v", tell(l), e)
	}
	all := wait.Stuck(e)
	v, is := wait.Victim(e, stamps)
	if want, ok := victim(all, stamps); !slices.Equal(all, stuck(e)) || v != want || is != ok {
		t.Fatalf("%s: %v, %d, %v", tell(l), all, v, is)
	}
	for _, n := range all {
		m, _ := lock.Drop(l, n)
		left := wait.Edges(m)
		if !lock.Waits(l, n) || slices.ContainsFunc(left, func(x [2]int) bool { return x[0] == n || x[1] == n || !slices.Contains(e, x) }) || slices.Contains(wait.Stuck(left), n) {
			t.Fatalf("%s: %d is stuck; without it %v", tell(l), n, left)
		}
	}
	for n := 0; is; n++ {
		if n == 4 {
			t.Fatalf("%s: one is stuck for ever", tell(l))
		}
		l, _ = lock.Drop(l, v)
		v, is = wait.Victim(wait.Edges(l), stamps)
	}
}

// P12.1 to P12.3: whatever is asked and dropped.
func TestAskedAndDropped(t *testing.T) {
	modes := []string{"IS", "IX", "S", "SIX", "X"}
	ends := []string{"a", "b", "ab", "ac", "bd", "cd", "a-", "c-"}
	seen := map[int]int{}
	for seed := range 200 {
		n := uint32(seed * 7919)
		next := func(below int) int {
			n = n*1664525 + 1013904223
			return int(n>>16) % below
		}
		var l api.Locks
		for range 80 {
			owner, table := next(4), next(1+seed%4)
			x := one(fmt.Sprintf("%d:%s:%d", owner, modes[next(5)], table))
			if next(2) == 0 {
				x = one(fmt.Sprintf("%d:%s:%d%s", owner, modes[2+2*next(2)], table, ends[next(8)]))
			}
			if next(3+seed%20) == 0 {
				l, _ = lock.Drop(l, owner)
			} else {
				l, _ = lock.Ask(l, x)
			}
			compare(t, l, [4]int{next(9), next(9), next(9), next(9)})
			seen[len(wait.Stuck(wait.Edges(l)))]++
		}
	}
	for n := range 5 {
		if n != 1 && seen[n] == 0 {
			t.Errorf("never were %d stuck: %v", n, seen)
		}
	}
	if seen[1] > 0 {
		t.Errorf("one waits for itself over nobody: %v", seen)
	}
}

// P12.1 to P12.3: all locks of up to three held, and up to two waited for, of some, those that may not be, too.
func TestOfMany(t *testing.T) {
	for _, words := range []string{"0:IX:0 1:S:0 2:X:0 0:S:0 1:IX:0", "0:X:0a 0:S:0ac 1:S:0b- 1:X:0a 2::0"} {
		some := list(words)
		all := []api.Locks{{}}
		for i := 0; i < len(all); i++ {
			for _, x := range some {
				if len(all[i].Held) < 3 && len(all[i].Queue) == 0 {
					all = append(all, api.Locks{Held: append(slices.Clone(all[i].Held), x)})
				}
				if len(all[i].Queue) < 2 {
					all = append(all, api.Locks{Held: all[i].Held, Queue: append(slices.Clone(all[i].Queue), x)})
				}
			}
		}
		for i, l := range all {
			compare(t, l, [4]int{i % 2, i % 3, i % 5, i % 7})
		}
	}
}

// R1: numbers of all kinds, and long lists.
func TestLong(t *testing.T) {
	many := make([][2]int, 1<<20)
	for i := range many {
		many[i] = [2]int{i, i + 1}
	}
	if got := wait.Stuck(many); len(got) > 0 {
		t.Errorf("a long row: %v", got)
	}
	many[1<<20-1] = [2]int{3, 0}
	v, is := wait.Victim(many, [4]int{3, 2, 1, 0})
	if got := wait.Stuck(many); !slices.Equal(got, owners("0 1 2 3")) || v != 0 || !is {
		t.Errorf("a long row that ends at its beginning: %v, %d, %v", got, v, is)
	}
	for i := range many {
		many[i] = [2]int{i % 4, (i + 2) % 4}
	}
	many[7] = [2]int{math.MaxInt, math.MinInt}
	v, is = wait.Victim(many, [4]int{0, math.MinInt, 0, -1})
	if got := wait.Stuck(many); !slices.Equal(got, owners("0 1 2 3")) || v != 2 || !is {
		t.Errorf("the same ones again: %v, %d, %v", got, v, is)
	}
	x := make([]api.Lock, 1<<20)
	long := api.Lock{Owner: 1, Span: api.Span{Lo: bytes.Repeat([]byte("k"), 1<<20), Open: true}, Mode: api.X}
	for _, l := range []api.Locks{{Held: x}, {Queue: x}, {Held: x, Queue: x}, {Held: []api.Lock{long}}, {Held: list("0:X:0a-"), Queue: []api.Lock{long}}} {
		if got := wait.Edges(l); len(got) > 0 {
			t.Errorf("long locks: %v", got)
		}
	}
}

// spare is a list in memory of its own, with room behind it, in which something stands.
func spare[T any](l []T, more T) []T {
	return append(append(make([]T, 0, len(l)+1), l...), more)[:len(l)]
}

// twin are locks in memory of their own, each list with spare room.
func twin(l api.Locks) api.Locks {
	all := func(l []api.Lock) []api.Lock {
		l = spare(l, one("3:X:0sp"))
		for i, x := range l {
			l[i].Span.Lo, l[i].Span.Hi = spare(x.Span.Lo, 'z'), spare(x.Span.Hi, 'z')
		}
		return l
	}
	return api.Locks{Held: all(l.Held), Queue: all(l.Queue)}
}

// some are locks, of all kinds of answers.
func some() []api.Locks {
	all := slices.Collect(maps.Values(wrong()))
	for _, words := range []string{"", "0:X:0", "0:X:0|1:S:0", "0:X:0|3:S:0 2:S:0 1:S:0", "0:X:0a 1:X:0b 2:X:0c|0:S:0b 1:S:0a 2:X:0a", "0:X:0a 1:X:0b 2:X:0c 3:X:0d|0:S:0b 1:S:0c 2:S:0d 3:S:0a", "0:S:0 1:S:0|1:SIX:0 0:SIX:0"} {
		all = append(all, locks(words))
	}
	return all
}

// answers are what all calls answer, in words, and the lists among these.
func answers(l api.Locks, more [][2]int, stamps [4]int) (words string, e [][2]int, stuck [][]int) {
	e = wait.Edges(l)
	stuck = [][]int{wait.Stuck(e), wait.Stuck(more)}
	v, is := wait.Victim(e, stamps)
	u, was := wait.Victim(more, stamps)
	return fmt.Sprint(e, stuck, v, is, u, was), e, stuck
}

// R3, R4: nothing is written into what is handed in, or its spare room, by a call, or by who has its answers; and what is answered stays, whatever becomes of what was handed in.
func TestArgumentsAndAnswersStay(t *testing.T) {
	for _, l := range some() {
		for bits := 1; bits < 1<<16; bits += 3111 {
			own, more := twin(l), spare(graph(bits), [2]int{3, 3})
			was, room := tell(own), fmt.Sprint(more[:cap(more)])
			words, e, stuck := answers(own, more, [4]int{1, 2, 2, 1})
			again, f, others := answers(own, more, [4]int{1, 2, 2, 1})
			if want, _, _ := answers(l, graph(bits), [4]int{1, 2, 2, 1}); words != want || again != want {
				t.Fatalf("%s: %s, and %s, for %s", was, words, again, want)
			}
			told := fmt.Sprint(e, stuck)
			for i := range f[:cap(f)] {
				f[:cap(f)][i] = [2]int{-9, 9}
			}
			for _, o := range others {
				for i := range o[:cap(o)] {
					o[:cap(o)][i] = -9
				}
			}
			if tell(own) != was || fmt.Sprint(more[:cap(more)]) != room {
				t.Fatalf("%s: what was handed in is changed", was)
			}
			for i := range more[:cap(more)] {
				more[:cap(more)][i] = [2]int{-7, 7}
			}
			for _, held := range [][]api.Lock{own.Held, own.Queue} {
				for i := range held[:cap(held)] {
					held[:cap(held)][i] = one("-7:X:9sp")
				}
			}
			if fmt.Sprint(e, stuck) != told {
				t.Fatalf("%s: %v, %v", was, e, stuck)
			}
		}
	}
}

// room is where a list stands, with its spare room.
type room struct{ from, to uintptr }

// at is that of a list; none of one without any.
func at[T any](l []T) []room {
	if cap(l) == 0 {
		return nil
	}
	var x T
	from := uintptr(unsafe.Pointer(unsafe.SliceData(l)))
	return []room{{from, from + uintptr(cap(l))*unsafe.Sizeof(x)}}
}

// R4: no two lists share memory, of an answer and an argument, or of two answers.
func TestListsApart(t *testing.T) {
	for _, l := range some() {
		more := spare(graph(0xffff), [2]int{3, 3})
		_, e, all := answers(l, more, [4]int{})
		_, f, others := answers(l, more, [4]int{})
		rooms := slices.Concat(at(e), at(f), at(more))
		for _, o := range slices.Concat(all, others) {
			rooms = append(rooms, at(o)...)
		}
		slices.SortFunc(rooms, func(a, b room) int { return int(a.from) - int(b.from) })
		for i := 1; i < len(rooms); i++ {
			if rooms[i].from < rooms[i-1].to {
				t.Fatalf("%s: memory is shared", tell(l))
			}
		}
		// Memory that nobody has any more may be another one's.
		runtime.KeepAlive([]any{more, e, f, all, others})
	}
}

// R5: what was asked ahead, or beside, and whether an empty list is nil, is nothing to an answer.
func TestNothingElseMatters(t *testing.T) {
	var first []string
	all := some()
	for i, l := range all {
		words, _, _ := answers(l, graph(i*1999), [4]int{i % 3, i % 2, 1, 0})
		first = append(first, words)
	}
	done := make(chan bool)
	for range 3 {
		go func() {
			for i, l := range slices.Backward(all) {
				if words, _, _ := answers(l, graph(i*1999), [4]int{i % 3, i % 2, 1, 0}); words != first[i] {
					t.Errorf("%s: %s, ahead of it %s", tell(l), words, first[i])
				}
			}
			done <- true
		}()
	}
	for range 3 {
		<-done
	}
	x, _, _ := answers(api.Locks{}, nil, [4]int{1, 2, 3, 4})
	y, _, _ := answers(api.Locks{Held: []api.Lock{}, Queue: []api.Lock{}}, [][2]int{}, [4]int{1, 2, 3, 4})
	if x != y {
		t.Errorf("%s, and %s", x, y)
	}
}
