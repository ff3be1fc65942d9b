package lock_test

import (
	"bytes"
	"fmt"
	"maps"
	"math"
	"runtime"
	"slices"
	"strconv"
	"strings"
	"testing"
	"unsafe"

	"banksman/api"
	"banksman/lock"
	"banksman/mode"
	"banksman/span"
)

// names are the modes' words, each with its number.
var names = map[string]int{"IS": api.IS, "IX": api.IX, "S": api.S, "SIX": api.SIX, "X": api.X}

// one is a lock as its owner, its mode, and its table, with, unless it is Whole, a key (0a), two ends (0ac), or one and no other (0a-).
func one(word string) api.Lock {
	part := strings.Split(word, ":")
	owner, _ := strconv.Atoi(part[0])
	table, ends := int(part[2][0]-'0'), part[2][1:]
	x := api.Lock{Owner: owner, Mode: names[part[1]], Span: api.Span{Table: table}}
	switch {
	case ends == "":
		x.Whole = true
	case len(ends) == 1:
		x.Span = span.Point(table, []byte(ends))
	case ends[1] == '-':
		x.Span.Lo, x.Span.Open = []byte(ends[:1]), true
	default:
		x.Span.Lo, x.Span.Hi = []byte(ends[:1]), []byte(ends[1:])
	}
	return x
}

// list are locks, each as one has it; locks are those held, and, behind a stroke, those waited for.
func list(words string) []api.Lock {
	var l []api.Lock
	for _, w := range strings.Fields(words) {
		l = append(l, one(w))
	}
	return l
}
func locks(words string) api.Locks {
	held, queue, _ := strings.Cut(words, "|")
	return api.Locks{Held: list(held), Queue: list(queue)}
}

// said is what there is to say of some locks; whether an empty list is nil is nothing to it.
func said(l ...api.Lock) string {
	var b []byte
	for _, x := range l {
		b = fmt.Appendf(b, "%d %d %v %d %q %q %v, ", x.Owner, x.Mode, x.Whole, x.Span.Table, x.Span.Lo, x.Span.Hi, x.Span.Open)
	}
	return string(b)
}

// tell is what there is to say of locks.
func tell(l api.Locks) string { return said(l.Held...) + "| " + said(l.Queue...) }

// named are all of a map, in its names' order.
func named[T any](m map[string]T) func(yield func(string, T) bool) {
	return func(yield func(string, T) bool) {
		for _, k := range slices.Sorted(maps.Keys(m)) {
			if !yield(k, m[k]) {
				return
			}
		}
	}
}

// numbers are those about the limits, those that look like one cut short, and the ends.
func numbers() []int {
	return []int{math.MinInt, math.MinInt + 1, math.MinInt32, -257, -256, -5, -4, -3, -2, -1, 0, 1, 2, 3, 4, 5, 6, 8, 255, 256, 257, 1 << 16, math.MaxInt32, 1 << 31, 1 << 32, 1<<32 + 1, 1<<32 + 3, 1<<62 + 2, math.MaxInt - 1, math.MaxInt}
}

// right are locks that may be.
func right() map[string]api.Lock {
	all := map[string]api.Lock{
		"empty lists":     {Whole: true, Span: api.Span{Lo: []byte{}, Hi: []byte{}}, Mode: api.S},
		"a part":          one("1:S:1ac"),
		"a part, alone":   one("1:X:1ac"),
		"from one on":     one("2:X:2b-"),
		"a key":           one("3:S:3k"),
		"a key, alone":    one("0:X:0k"),
		"all, no whole":   {Owner: 1, Span: span.All(2), Mode: api.S},
		"all, empty list": {Owner: 1, Span: api.Span{Lo: []byte{}, Hi: []byte{}, Open: true}, Mode: api.X},
		"17 bytes":        {Span: api.Span{Lo: bytes.Repeat([]byte("k"), 17), Hi: bytes.Repeat([]byte("l"), 17)}, Mode: api.S},
		"the least key":   {Span: span.Point(0, nil), Mode: api.X},
	}
	for owner := range 4 {
		for table := range 4 {
			for m := 1; m <= 5; m++ {
				all[fmt.Sprintf("whole, %d %d %d", owner, table, m)] = api.Lock{Owner: owner, Whole: true, Span: api.Span{Table: table}, Mode: m}
			}
			all[fmt.Sprintf("part, %d %d", owner, table)] = api.Lock{Owner: owner, Span: span.Point(table, []byte("k")), Mode: api.S}
		}
	}
	return all
}

// wrong are locks that may not be, each for one reason.
func wrong() map[string]api.Lock {
	long := bytes.Repeat([]byte("k"), 18)
	all := map[string]api.Lock{
		"nothing":          {},
		"no mode":          {Whole: true},
		"whole, Lo":        {Whole: true, Span: api.Span{Lo: []byte("a")}, Mode: api.S},
		"whole, Hi":        {Whole: true, Span: api.Span{Hi: []byte("a")}, Mode: api.S},
		"whole, both":      {Whole: true, Span: api.Span{Lo: []byte("a"), Hi: []byte("b")}, Mode: api.X},
		"whole, a 0":       {Whole: true, Span: api.Span{Hi: []byte{0}}, Mode: api.IX},
		"whole, Open":      {Whole: true, Span: api.Span{Open: true}, Mode: api.S},
		"whole, Open, Lo":  {Whole: true, Span: api.Span{Lo: []byte("a"), Open: true}, Mode: api.X},
		"no span":          {Mode: api.S},
		"up to itself":     one("0:S:0aa"),
		"turned":           one("0:X:0ca"),
		"18 of Lo":         {Span: api.Span{Lo: long, Open: true}, Mode: api.S},
		"18 of Hi":         {Span: api.Span{Lo: []byte("a"), Hi: long}, Mode: api.X},
		"open, with Hi":    {Span: api.Span{Lo: []byte("a"), Hi: []byte("b"), Open: true}, Mode: api.X},
		"open, Hi of 17":   {Span: api.Span{Hi: long[:17], Open: true}, Mode: api.S},
		"a part, IS":       one("0:IS:0ab"),
		"a part, IX":       one("0:IX:0ab"),
		"a part, SIX":      one("0:SIX:0ab"),
		"all, IS":          {Span: span.All(0), Mode: api.IS},
		"a part, no mode":  {Span: span.All(0)},
		"whole, 256 of Lo": {Whole: true, Span: api.Span{Lo: make([]byte, 256)}, Mode: api.S},
	}
	for _, n := range numbers() {
		name := strconv.Itoa(n)
		if n < 0 || n > 3 {
			all["whole, owner "+name] = api.Lock{Owner: n, Whole: true, Mode: api.S}
			all["a part, owner "+name] = api.Lock{Owner: n, Span: span.All(0), Mode: api.S}
			all["whole, table "+name] = api.Lock{Whole: true, Span: api.Span{Table: n}, Mode: api.S}
			all["a part, table "+name] = api.Lock{Span: span.All(n), Mode: api.S}
		}
		if n < 1 || n > 5 {
			all["whole, mode "+name] = api.Lock{Whole: true, Mode: n}
		}
		if n != api.S && n != api.X {
			all["a part, mode "+name] = api.Lock{Span: span.All(0), Mode: n}
		}
	}
	return all
}

// may tells whether a lock may be, clash whether two clash, served whether the first is by the second, by the chapter's words.
func may(x api.Lock) bool {
	s := x.Span
	if x.Owner < 0 || x.Owner > 3 || s.Table < 0 || s.Table > 3 {
		return false
	}
	if x.Whole {
		return len(s.Lo) == 0 && len(s.Hi) == 0 && !s.Open && slices.Contains([]int{1, 2, 3, 4, 5}, x.Mode)
	}
	return span.Check(s) && !span.Empty(s) && slices.Contains([]int{3, 5}, x.Mode)
}
func clash(a, b api.Lock) bool {
	if a.Owner == b.Owner || a.Span.Table != b.Span.Table {
		return false
	}
	whole := a.Whole && b.Whole && !mode.Fits(a.Mode, b.Mode)
	part := !a.Whole && !b.Whole && span.Meets(a.Span, b.Span) && (a.Mode == 5 || b.Mode == 5)
	return whole || part
}
func served(x, by api.Lock) bool {
	if by.Owner != x.Owner || by.Span.Table != x.Span.Table {
		return false
	}
	if by.Whole {
		return mode.Covers(by.Mode, x.Mode)
	}
	return !x.Whole && span.Covers(by.Span, x.Span) && (by.Mode == 5 || by.Mode == x.Mode)
}

// those are the owners of those of l that clash with x, rising, each once.
func those(x api.Lock, l ...api.Lock) []int {
	var all []int
	for owner := range 4 {
		if slices.ContainsFunc(l, func(y api.Lock) bool { return y.Owner == owner && clash(y, x) }) {
			all = append(all, owner)
		}
	}
	return all
}

// blockers are those of the i-th of the Queue, by the chapter's words.
func blockers(l api.Locks, i int) []int {
	return those(l.Queue[i], slices.Concat(l.Held, l.Queue[:i])...)
}

// sound tells whether locks may be, by P11.1.
func sound(l api.Locks) bool {
	all := slices.Concat(l.Held, l.Queue)
	ok := len(all) <= 40
	for _, x := range all {
		ok = ok && may(x)
	}
	for i, x := range l.Held {
		for _, y := range l.Held[i+1:] {
			ok = ok && !clash(x, y) && !(x.Whole && y.Whole && x.Owner == y.Owner && x.Span.Table == y.Span.Table)
		}
	}
	for i, x := range l.Queue {
		for _, y := range l.Queue[i+1:] {
			ok = ok && x.Owner != y.Owner
		}
		ok = ok && len(blockers(l, i)) > 0
	}
	return ok
}

// place is where in Held the Whole one of its owner and table stands; -1 without one.
func place(held []api.Lock, x api.Lock) int {
	return slices.IndexFunc(held, func(y api.Lock) bool {
		return x.Whole && y.Whole && x.Owner == y.Owner && x.Span.Table == y.Span.Table
	})
}

// with are those held, and one more, where it is to stand.
func with(held []api.Lock, x api.Lock) []api.Lock {
	own := slices.Clone(held)
	if i := place(held, x); i >= 0 {
		own[i] = x
		return own
	}
	return append(own, x)
}

// asked is what Ask answers, by P11.3.
func asked(l api.Locks, x api.Lock) (api.Locks, api.Errno) {
	if !sound(l) || !may(x) {
		return l, api.ErrArg
	}
	for _, y := range l.Queue {
		if y.Owner == x.Owner {
			return l, api.ErrArg
		}
	}
	for _, y := range l.Held {
		if served(x, y) {
			return l, api.OK
		}
	}
	if i := place(l.Held, x); i >= 0 {
		x.Mode = mode.Join(x.Mode, l.Held[i].Mode)
	}
	switch {
	case len(l.Held)+len(l.Queue) == 40:
		return l, api.ErrLocks
	case len(those(x, slices.Concat(l.Held, l.Queue)...)) > 0:
		return api.Locks{Held: l.Held, Queue: append(slices.Clone(l.Queue), x)}, api.ErrWait
	}
	return api.Locks{Held: with(l.Held, x), Queue: l.Queue}, api.OK
}

// dropped is what Drop answers, by P11.4.
func dropped(l api.Locks, owner int) (api.Locks, []int) {
	if !sound(l) || owner < 0 || owner > 3 {
		return l, nil
	}
	var m api.Locks
	var come [4]bool
	for _, x := range l.Held {
		if x.Owner != owner {
			m.Held = append(m.Held, x)
		}
	}
	for _, x := range l.Queue {
		if x.Owner == owner {
			continue
		}
		if len(those(x, slices.Concat(m.Held, m.Queue)...)) > 0 {
			m.Queue = append(m.Queue, x)
			continue
		}
		m.Held = with(m.Held, x)
		come[x.Owner] = true
	}
	var all []int
	for owner, is := range come {
		if is {
			all = append(all, owner)
		}
	}
	return m, all
}

// P11.1: each lock alone, held, or waited for.
func TestCheckOfOne(t *testing.T) {
	for what, x := range named(right()) {
		if !lock.Check(api.Locks{Held: []api.Lock{x}}) {
			t.Errorf("%s is refused", what)
		}
		if lock.Check(api.Locks{Queue: []api.Lock{x}}) {
			t.Errorf("%s waits for nobody", what)
		}
		ahead := x
		ahead.Owner, ahead.Mode = (x.Owner+1)%4, api.X
		if !lock.Check(api.Locks{Held: []api.Lock{ahead}, Queue: []api.Lock{x}}) {
			t.Errorf("%s is refused, waited for", what)
		}
	}
	for what, x := range named(wrong()) {
		for _, l := range []api.Locks{{Held: []api.Lock{x}}, {Queue: []api.Lock{x}}, {Held: append(list("3:IS:3 3:X:3k"), x)}, {Held: append([]api.Lock{x}, list("3:IS:3 3:X:3k")...)}, {Held: list("3:X:0 3:X:0ay 3:S:0z-"), Queue: []api.Lock{x}}, {Held: list("3:X:0"), Queue: append(list("2:S:0"), x)}} {
			if lock.Check(l) {
				t.Errorf("%s: %s", what, tell(l))
			}
		}
	}
}

// P11.1
func TestCheck(t *testing.T) {
	for what, c := range named(map[string]struct {
		l    string
		want bool
	}{
		"nothing":                    {"", true},
		"one":                        {"0:X:0", true},
		"two tables of one":          {"0:X:0 0:X:1", true},
		"two tables of two":          {"0:X:0 1:X:1", true},
		"whole ones that fit":        {"0:IX:0 1:IX:0 2:IS:0", true},
		"whole ones that clash":      {"0:IX:0 1:S:0", false},
		"whole, clash, far apart":    {"0:IX:0 2:X:3 3:S:2b 1:S:0", false},
		"parts that fit":             {"0:S:0ac 1:S:0bd 2:S:0b", true},
		"parts that clash":           {"0:S:0ac 1:X:0b", false},
		"parts that clash, turned":   {"0:X:0ac 1:S:0b", false},
		"parts, both alone":          {"0:X:0ac 1:X:0b-", false},
		"parts that do not meet":     {"0:X:0ac 1:X:0c-", true},
		"parts of two tables":        {"0:X:0ac 1:X:1ac", true},
		"parts of one":               {"0:X:0ac 0:S:0b 0:X:0ac 0:S:0ac", true},
		"a part, and a whole":        {"0:X:0 1:X:0b", true},
		"two whole ones of one":      {"0:IS:0 0:IX:0", false},
		"the same one twice":         {"0:IS:0 0:IS:0", false},
		"two of one, far apart":      {"0:IS:0 1:IS:0 0:X:1 0:IX:0", false},
		"the same part twice":        {"0:S:0b 0:S:0b", true},
		"one waits":                  {"0:X:0|1:S:0", true},
		"one waits for nobody":       {"0:X:0|1:S:1", false},
		"one waits for itself":       {"0:X:0|0:S:0", false},
		"waits for what fits":        {"0:IS:0|1:IX:0", false},
		"part waits for a whole":     {"0:X:0|1:X:0b", false},
		"part waits for a part":      {"0:S:0ac|1:X:0b", true},
		"two wait":                   {"0:X:0|1:S:0 2:S:0", true},
		"three wait":                 {"0:X:0|1:S:0 2:S:0 3:X:0", true},
		"waits for who waits":        {"0:S:0|1:X:0 2:IS:0", true},
		"waits for who waits behind": {"0:S:0|2:IS:0 1:X:0", false},
		"one waits twice":            {"0:X:0 0:X:1|1:S:0 1:S:1", false},
		"waits twice, far apart":     {"0:X:0|1:S:0 2:S:0 3:X:0 1:IS:0", false},
		"holds, and waits":           {"0:S:0 1:S:0|0:SIX:0", true},
		"holds it, and waits":        {"0:S:0 1:S:0|0:IX:0 2:IX:0", true},
		"stuck":                      {"0:X:0 1:X:1|0:X:1 1:X:0", true},
	}) {
		if lock.Check(locks(c.l)) != c.want {
			t.Errorf("%s: not %v", what, c.want)
		}
	}
}

// filled are locks of so many in all, that may be, up to 3 of them waited for.
func filled(many, waiting int) api.Locks {
	l := locks("0:X:0a 0:X:0b 0:X:0c")
	for i := range many - waiting - 3 {
		l.Held = append(l.Held, api.Lock{Owner: i % 4, Span: span.Point(1+i%3, []byte{byte(i)}), Mode: api.S})
	}
	l.Queue = list("1:S:0a 2:X:0b 3:S:0c")[:waiting]
	return l
}

// P11.1: how many there are, held and waited for.
func TestCheckOfHowMany(t *testing.T) {
	for _, many := range []int{6, 10, 38, 39, 40, 41, 42, 79, 80, 81, 296} {
		for waiting := range 4 {
			l := filled(many, waiting)
			if len(l.Held)+len(l.Queue) != many || lock.Check(l) != (many <= 40) {
				t.Errorf("%d, %d: not %v", many, waiting, many <= 40)
			}
		}
	}
}

// some are locks of all kinds, those that may not be, too.
func some() []api.Lock {
	all := list("0:IS:0 1:IS:0 0:IX:0 1:IX:0 0:S:0 1:S:0 0:SIX:0 1:SIX:0 0:X:0 1:X:0 2:X:1 0:S:0a 1:S:0a 0:X:0a 1:X:0a 0:X:0ac 1:S:0b- 1:X:1a 2:X:0bd 3:S:0bd")
	all = append(all, slices.Collect(maps.Values(wrong()))...)
	return append(all, slices.Collect(maps.Values(right()))...)
}

// P11.1
func TestClash(t *testing.T) {
	for what, c := range named(map[string]struct {
		a, b string
		want bool
	}{
		"one's own":              {"0:X:0", "0:X:0", false},
		"one's own, parts":       {"0:X:0a", "0:X:0a", false},
		"other tables":           {"0:X:0", "1:X:1", false},
		"other tables, parts":    {"0:X:0a", "1:X:1a", false},
		"they fit":               {"0:IX:0", "1:IX:0", false},
		"they do not fit":        {"0:IX:0", "1:S:0", true},
		"both alone":             {"0:X:0", "1:X:0", true},
		"some, and alone":        {"0:IS:0", "1:X:0", true},
		"parts that meet":        {"0:X:0ac", "1:S:0b", true},
		"parts, both alone":      {"0:X:0ac", "1:X:0b", true},
		"parts, both shared":     {"0:S:0ac", "1:S:0b", false},
		"parts that meet not":    {"0:X:0ac", "1:X:0c", false},
		"a whole, and a part":    {"0:X:0", "1:X:0b", false},
		"owners beyond":          {"7:X:0", "-9:X:0", true},
		"a table beyond":         {"0:X:9", "1:X:9", true},
		"parts, of SIX":          {"0:SIX:0ac", "1:SIX:0b", false},
		"parts, of SIX and X":    {"0:SIX:0ac", "1:X:0b", true},
		"no mode":                {"0::0", "1:IS:0", true},
		"no mode, both":          {"0::0", "1::0", true},
		"no mode, part":          {"0::0a", "1:S:0a", false},
		"no mode, part, alone":   {"0::0a", "1:X:0a", true},
		"an empty part":          {"0:X:0bb", "1:X:0ac", false},
		"a turned part":          {"0:X:0db", "1:X:0ae", false},
		"whole, other's table":   {"0:X:2", "3:X:2", true},
		"whole, beyond the last": {"0:S:4", "3:IX:4", true},
	}) {
		a, b := one(c.a), one(c.b)
		if lock.Clash(a, b) != c.want || lock.Clash(b, a) != c.want {
			t.Errorf("%s: not %v", what, c.want)
		}
	}
	for _, a := range some() {
		for _, b := range some() {
			if lock.Clash(a, b) != clash(a, b) {
				t.Fatalf("%s %s: not %v", said(a), said(b), clash(a, b))
			}
		}
	}
	for m := -1; m <= 6; m++ {
		for n := -1; n <= 6; n++ {
			a, b := api.Lock{Whole: true, Span: api.Span{Lo: []byte("a")}, Mode: m}, api.Lock{Owner: 1, Whole: true, Span: api.Span{Open: true}, Mode: n}
			if lock.Clash(a, b) == mode.Fits(m, n) {
				t.Errorf("%d, %d: %v", m, n, mode.Fits(m, n))
			}
			a.Whole, b.Whole = false, false
			a.Span.Hi = []byte("b")
			if lock.Clash(a, b) != (m == api.X || n == api.X) {
				t.Errorf("parts, %d, %d", m, n)
			}
		}
	}
}

// P11.2
func TestBlockersAndWaits(t *testing.T) {
	for _, c := range []struct {
		l    string
		want [4]string
	}{
		{"", [4]string{}},
		{"0:X:0 1:X:1", [4]string{}},
		{"0:X:0|1:S:0", [4]string{1: "0"}},
		{"0:X:0|1:S:0 2:S:0 3:X:0", [4]string{1: "0", 2: "0", 3: "0 1 2"}},
		{"3:S:0 1:IS:0 0:S:0|2:X:0", [4]string{2: "0 1 3"}},
		{"3:S:0 1:IS:0 0:S:0|2:IX:0", [4]string{2: "0 3"}},
		{"3:S:0|2:X:0 1:IS:0 0:S:0", [4]string{2: "3", 1: "2", 0: "2"}},
		{"1:S:0a 1:S:0b 1:S:0c|0:X:0ac", [4]string{0: "1"}},
		{"1:S:0a 1:S:0b 1:S:0c 3:S:0a|2:X:0a- 0:X:0ac", [4]string{2: "1 3", 0: "1 2 3"}},
		{"1:S:0a 2:X:1|0:X:0ac 1:S:1 3:X:1", [4]string{0: "1", 1: "2", 3: "1 2"}},
		{"0:X:0 1:X:1|0:X:1 1:X:0", [4]string{0: "1", 1: "0"}},
		{"0:S:0 1:S:0|0:SIX:0 1:SIX:0", [4]string{0: "1", 1: "0"}},
		{"0:X:0|1:X:0 0:IS:0", [4]string{1: "0", 0: "1"}},
	} {
		l := locks(c.l)
		for _, owner := range numbers() {
			want := ""
			if owner >= 0 && owner <= 3 {
				want = c.want[owner]
			}
			if got := strings.Trim(fmt.Sprint(lock.Blockers(l, owner)), "[]"); got != want || lock.Waits(l, owner) != (want != "") {
				t.Errorf("%s, %d: %s for %s, %v", c.l, owner, got, want, lock.Waits(l, owner))
			}
		}
	}
}

// P11.1: of locks that may not be nothing is told.
func TestNothingOfWrongOnes(t *testing.T) {
	good := locks("0:X:0 0:X:1 0:X:2a-|1:S:0 2:S:0 3:S:2b")
	all := []api.Locks{locks("0:X:0|1:S:0 1:S:0"), locks("0:X:0|1:S:0 2:S:1"), locks("0:X:0 1:X:0|2:S:0"), locks("0:X:0 0:IS:0|2:S:0"), filled(41, 3), locks("0:X:0|1:S:0 4:S:0")}
	for _, x := range named(wrong()) {
		all = append(all, api.Locks{Held: append(slices.Clone(good.Held), x), Queue: good.Queue})
		all = append(all, api.Locks{Held: good.Held, Queue: slices.Insert(slices.Clone(good.Queue), 1, x)})
	}
	for _, l := range all {
		for _, owner := range numbers() {
			if b := lock.Blockers(l, owner); len(b) > 0 || lock.Waits(l, owner) {
				t.Errorf("%s, %d: %v", tell(l), owner, b)
			}
		}
	}
	if len(lock.Blockers(good, 1)) != 1 || !lock.Waits(good, 3) {
		t.Error("nothing of good ones")
	}
}

// P11.3: the chapter's example, and others.
func TestAsk(t *testing.T) {
	for what, c := range named(map[string]struct {
		l, x string
		e    api.Errno
		want string
	}{
		"the first":              {"", "0:X:0", api.OK, "0:X:0"},
		"the first, a part":      {"", "3:S:3ac", api.OK, "3:S:3ac"},
		"the chapter's":          {"0:X:0a", "1:S:0a", api.ErrWait, "0:X:0a|1:S:0a"},
		"behind":                 {"0:IX:0 1:IS:0", "2:IX:0", api.OK, "0:IX:0 1:IS:0 2:IX:0"},
		"held already":           {"0:IX:0 1:IS:0", "1:IS:0", api.OK, "0:IX:0 1:IS:0"},
		"served":                 {"0:SIX:0", "0:IX:0", api.OK, "0:SIX:0"},
		"served, though others":  {"0:SIX:0|1:SIX:0", "0:S:0", api.OK, "0:SIX:0|1:SIX:0"},
		"a part, served":         {"0:S:0", "0:S:0a", api.OK, "0:S:0"},
		"a part, served by SIX":  {"0:SIX:0", "0:S:0a", api.OK, "0:SIX:0"},
		"a part, served by X":    {"0:X:0", "0:X:0a-", api.OK, "0:X:0"},
		"a part, not by SIX":     {"0:SIX:0", "0:X:0a", api.OK, "0:SIX:0 0:X:0a"},
		"a part, not by IX":      {"0:IX:0", "0:S:0a", api.OK, "0:IX:0 0:S:0a"},
		"a part, not by IS":      {"0:IS:0", "0:S:0a", api.OK, "0:IS:0 0:S:0a"},
		"a part by a part":       {"0:S:0ad", "0:S:0bc", api.OK, "0:S:0ad"},
		"a part by X":            {"0:X:0ad", "0:S:0bc", api.OK, "0:X:0ad"},
		"a part, not by S":       {"0:S:0ad", "0:X:0bc", api.OK, "0:S:0ad 0:X:0bc"},
		"a part by the last":     {"0:S:0xz 1:S:0ad 0:S:0ad", "0:S:0a", api.OK, "0:S:0xz 1:S:0ad 0:S:0ad"},
		"a greater part":         {"0:X:0bc", "0:X:0ad", api.OK, "0:X:0bc 0:X:0ad"},
		"a part by two":          {"0:S:0ab 0:S:0bc", "0:S:0ac", api.OK, "0:S:0ab 0:S:0bc 0:S:0ac"},
		"another's part":         {"1:S:0ad", "0:S:0bc", api.OK, "1:S:0ad 0:S:0bc"},
		"another table's part":   {"0:S:1ad", "0:S:0bc", api.OK, "0:S:1ad 0:S:0bc"},
		"a whole, not by a part": {"0:X:0a-", "0:IS:0", api.OK, "0:X:0a- 0:IS:0"},
		"another's whole":        {"1:S:0", "0:S:0a", api.OK, "1:S:0 0:S:0a"},
		"another table's whole":  {"0:S:1", "0:S:0a", api.OK, "0:S:1 0:S:0a"},
		"joined":                 {"0:S:0", "0:IX:0", api.OK, "0:SIX:0"},
		"joined, in its place":   {"1:IS:0 0:IX:0 2:IS:0", "0:S:0", api.OK, "1:IS:0 0:SIX:0 2:IS:0"},
		"joined, and waits":      {"1:IS:0 0:S:0 2:S:0", "0:IX:0", api.ErrWait, "1:IS:0 0:S:0 2:S:0|0:SIX:0"},
		"joined, of its table":   {"0:X:1 0:IS:0 0:S:2", "0:IX:0", api.OK, "0:X:1 0:IX:0 0:S:2"},
		"not joined, by table":   {"0:S:1", "0:IX:0", api.OK, "0:S:1 0:IX:0"},
		"not joined, by owner":   {"1:IS:0", "0:IX:0", api.OK, "1:IS:0 0:IX:0"},
		"joined to what clashes": {"0:S:0 1:IS:0", "0:X:0", api.ErrWait, "0:S:0 1:IS:0|0:X:0"},
		"a part is not joined":   {"0:S:0a", "0:X:0a", api.OK, "0:S:0a 0:X:0a"},
		"waits":                  {"0:X:0", "1:IS:0", api.ErrWait, "0:X:0|1:IS:0"},
		"waits behind":           {"0:X:0|1:X:0 2:X:0", "3:X:0", api.ErrWait, "0:X:0|1:X:0 2:X:0 3:X:0"},
		"waits for who waits":    {"0:S:0|1:X:0", "2:S:0", api.ErrWait, "0:S:0|1:X:0 2:S:0"},
		"part, for who waits":    {"0:S:0a|1:X:0ac", "2:S:0b", api.ErrWait, "0:S:0a|1:X:0ac 2:S:0b"},
		"goes by who waits":      {"0:S:0|1:X:0", "2:S:1", api.OK, "0:S:0 2:S:1|1:X:0"},
		"a holder goes behind":   {"0:IS:0 2:IS:0|1:X:0", "0:IX:0", api.ErrWait, "0:IS:0 2:IS:0|1:X:0 0:IX:0"},
		"one that waits":         {"0:X:0|1:S:0", "1:S:1", api.ErrArg, "0:X:0|1:S:0"},
		"one that waits, served": {"0:X:0 1:X:1|1:S:0", "1:S:1", api.ErrArg, "0:X:0 1:X:1|1:S:0"},
		"one that waits, again":  {"0:X:0|1:S:0", "1:S:0", api.ErrArg, "0:X:0|1:S:0"},
		"locks that may not be":  {"0:X:0 1:X:0", "2:S:1", api.ErrArg, "0:X:0 1:X:0"},
		"such, that serve":       {"0:X:0 1:X:0", "0:S:0", api.ErrArg, "0:X:0 1:X:0"},
		"two waits of one":       {"0:X:0 0:X:1|1:S:0 1:S:1", "2:S:2", api.ErrArg, "0:X:0 0:X:1|1:S:0 1:S:1"},
		"waits for nobody":       {"|1:S:0", "0:S:2", api.ErrArg, "|1:S:0"},
	}) {
		l, e := lock.Ask(locks(c.l), one(c.x))
		if e != c.e || tell(l) != tell(locks(c.want)) {
			t.Errorf("%s: %v, %s", what, e, tell(l))
		}
	}
}

// P11.3: locks that may not be are refused, whatever else there is.
func TestAskWrong(t *testing.T) {
	for what, x := range named(wrong()) {
		for _, l := range []api.Locks{{}, locks("0:X:0 0:X:1a-"), locks("0:X:0 1:X:1|1:X:0 2:S:1"), filled(40, 2), filled(41, 0), locks("0:X:0 1:X:0"), {Held: []api.Lock{x}}, {Queue: []api.Lock{x}}} {
			if m, e := lock.Ask(l, x); e != api.ErrArg || tell(m) != tell(l) {
				t.Errorf("%s: %v, %s for %s", what, e, tell(m), tell(l))
			}
		}
		for _, y := range list("0:S:0 3:X:3a") {
			for _, l := range []api.Locks{{Held: []api.Lock{x}}, {Held: append(list("0:S:0 3:X:3a"), x)}, {Held: list("1:X:0 1:X:0a"), Queue: append(list("2:S:0"), x)}} {
				if m, e := lock.Ask(l, y); e != api.ErrArg || tell(m) != tell(l) {
					t.Errorf("%s, there: %v, %s for %s", what, e, tell(m), tell(l))
				}
			}
		}
	}
}

// P11.3: how many there are; what is served is so of as many, too, and what is joined is not.
func TestAskOfMany(t *testing.T) {
	for waiting := range 3 {
		for _, many := range []int{8, 38, 39, 40, 41} {
			l := filled(many, waiting)
			l.Held[3], l.Held[4] = one("0:IS:1"), one("3:S:1ac")
			for word, is := range map[string]api.Errno{"3:S:2z": api.ErrLocks, "3:X:0a": api.ErrLocks, "0:X:1": api.ErrLocks, "0:IX:1": api.ErrLocks, "0:IS:1": api.OK, "3:S:1a": api.OK, "3:X:1a": api.ErrLocks, "3:S:1bd": api.ErrLocks, "3::1": api.ErrArg} {
				m, e := lock.Ask(l, one(word))
				want, err := asked(l, one(word))
				if tell(m) != tell(want) || e != err || many == 40 && e != is || many == 41 && e != api.ErrArg || many < 40 && e == api.ErrLocks {
					t.Errorf("%d, %d, %s: %v, %s", many, waiting, word, e, tell(m))
				}
			}
		}
	}
}

// P11.4
func TestDrop(t *testing.T) {
	for what, c := range named(map[string]struct {
		l     string
		owner int
		want  string
		come  string
	}{
		"nothing":                {"", 0, "", ""},
		"one":                    {"0:X:0", 0, "", ""},
		"one that has none":      {"0:X:0", 1, "0:X:0", ""},
		"all of one's":           {"0:X:0 1:S:1 0:S:1a 0:S:1 2:S:1", 0, "1:S:1 2:S:1", ""},
		"its wait":               {"0:X:0|1:S:0 2:S:0", 1, "0:X:0|2:S:0", ""},
		"one comes":              {"0:X:0|1:S:0", 0, "1:S:0", "1"},
		"two come":               {"0:X:0|2:S:0 1:S:0", 0, "2:S:0 1:S:0", "1 2"},
		"the first comes":        {"0:X:0|2:X:0 1:S:0", 0, "2:X:0|1:S:0", "2"},
		"the one behind comes":   {"0:X:1 3:X:0|2:X:0 1:S:1", 0, "3:X:0 1:S:1|2:X:0", "1"},
		"as who waited goes":     {"0:S:0|1:X:0 2:IS:0 3:IX:0", 1, "0:S:0 2:IS:0|3:IX:0", "2"},
		"not past who waits":     {"0:X:0 1:S:1|2:X:0 1:S:0", 0, "1:S:1 2:X:0|1:S:0", "2"},
		"one waits ahead on":     {"0:S:0 3:S:0|2:X:0 1:S:0", 0, "3:S:0|2:X:0 1:S:0", ""},
		"in its place":           {"1:IS:0 0:S:0 2:IS:1|1:IX:0", 0, "1:IX:0 2:IS:1", "1"},
		"in its place, as it is": {"1:X:0 0:IS:1|2:S:0 1:X:1 3:S:1", 0, "1:X:0 1:X:1|2:S:0 3:S:1", "1"},
		"a part, behind":         {"1:S:0a 0:S:0a 2:S:0b|1:X:0a", 0, "1:S:0a 2:S:0b 1:X:0a", "1"},
		"stuck no more":          {"0:X:0 1:X:1|0:X:1 1:X:0", 0, "1:X:1 1:X:0", "1"},
		"three in a row":         {"0:X:0 1:X:1 2:X:2|0:X:1 1:X:2 2:X:0", 1, "0:X:0 2:X:2 0:X:1|2:X:0", "0"},
		"may not be":             {"0:X:0 1:X:0", 0, "0:X:0 1:X:0", ""},
		"nobody waited for":      {"0:X:0|1:X:1", 0, "0:X:0|1:X:1", ""},
		"owner -1":               {"0:X:0|1:S:0", -1, "0:X:0|1:S:0", ""},
		"owner 4":                {"0:X:0|1:S:0", 4, "0:X:0|1:S:0", ""},
		"as it stands there":     {"1:X:0|2:X:0 1:IS:0", 2, "1:IS:0", "1"},
	}) {
		l, come := lock.Drop(locks(c.l), c.owner)
		if got := strings.Trim(fmt.Sprint(come), "[]"); tell(l) != tell(locks(c.want)) || got != c.come {
			t.Errorf("%s: %s, %s", what, got, tell(l))
		}
	}
	for what, x := range named(wrong()) {
		for _, l := range []api.Locks{{Held: append(list("0:X:0"), x), Queue: list("1:S:0")}, {Held: list("0:X:0"), Queue: append(list("1:S:0"), x)}} {
			for _, owner := range numbers() {
				if m, come := lock.Drop(l, owner); tell(m) != tell(l) || len(come) > 0 {
					t.Errorf("%s, %d: %v, %s", what, owner, come, tell(m))
				}
			}
		}
	}
	for _, owner := range numbers() {
		for _, l := range []api.Locks{filled(40, 3), filled(41, 3), locks("0:X:0 1:X:1|2:X:0 3:X:1")} {
			m, come := lock.Drop(l, owner)
			want, all := dropped(l, owner)
			if tell(m) != tell(want) || !slices.Equal(come, all) {
				t.Errorf("%d, %s: %v, %s", owner, tell(l), come, tell(m))
			}
		}
	}
}

// lists are all lists of so many of some locks.
func lists(size int, of []api.Lock) [][]api.Lock {
	all := [][]api.Lock{nil}
	for range size {
		var longer [][]api.Lock
		for _, l := range all {
			for _, x := range of {
				longer = append(longer, append(slices.Clone(l), x))
			}
		}
		all = longer
	}
	return all
}

// compare holds all calls against the chapter's words.
func compare(t *testing.T, l api.Locks, all []api.Lock) {
	ok := sound(l)
	if lock.Check(l) != ok {
		t.Fatalf("%s: not %v", tell(l), ok)
	}
	for owner := -1; owner <= 4; owner++ {
		var want []int
		i := slices.IndexFunc(l.Queue, func(x api.Lock) bool { return x.Owner == owner })
		if i >= 0 && ok {
			want = blockers(l, i)
		}
		if got := lock.Blockers(l, owner); !slices.Equal(got, want) || lock.Waits(l, owner) != (i >= 0 && ok) {
			t.Fatalf("%s, %d: %v, %v", tell(l), owner, got, lock.Waits(l, owner))
		}
		m, come := lock.Drop(l, owner)
		n, all := dropped(l, owner)
		if tell(m) != tell(n) || !slices.Equal(come, all) {
			t.Fatalf("%s, %d: %v, %s", tell(l), owner, come, tell(m))
		}
	}
	for _, x := range all {
		m, e := lock.Ask(l, x)
		n, err := asked(l, x)
		if tell(m) != tell(n) || e != err {
			t.Fatalf("%s and %s: %v, %s", tell(l), said(x), e, tell(m))
		}
		if ok && !lock.Check(m) {
			t.Fatalf("%s and %s: %s", tell(l), said(x), tell(m))
		}
	}
}

// P11.1 to P11.4: all locks of up to two held, and up to two waited for, of some.
func TestOfMany(t *testing.T) {
	whole, parts := list("0:IX:0 1:S:0 2:X:0 0:S:0 1:IS:0 3:IX:0 0:X:1"), list("0:X:0a 0:S:0ac 1:S:0b- 1:X:0a 2:X:0ad 2:S:0 3::0")
	for _, some := range [][]api.Lock{whole, parts} {
		for held := range 3 {
			for waiting := range 3 {
				for _, h := range lists(held, some) {
					for _, q := range lists(waiting, some) {
						compare(t, api.Locks{Held: h, Queue: q}, some)
					}
				}
			}
		}
	}
}

// P11.5: whatever is asked and dropped, locks may be, whoever waits has a blocker, and behind Drop of all nothing is left.
func TestAskedAndDropped(t *testing.T) {
	modes := []string{"IS", "IX", "S", "SIX", "X"}
	ends := []string{"a", "b", "ab", "ac", "bd", "cd", "a-", "c-"}
	for seed := range 150 {
		n := uint32(seed * 7919)
		next := func(below int) int {
			n = n*1664525 + 1013904223
			return int(n>>16) % below
		}
		var l api.Locks
		for range 80 {
			owner, table := next(4), next(1+seed%4)
			x := one(fmt.Sprintf("%d:%s:%d", owner, modes[next(5)], table))
			if next(2) == 0 {
				x = one(fmt.Sprintf("%d:%s:%d%s", owner, modes[2+2*next(2)], table, ends[next(8)]))
			}
			compare(t, l, []api.Lock{x})
			if next(1+seed%9) == 0 {
				l, _ = lock.Drop(l, owner)
			} else {
				l, _ = lock.Ask(l, x)
			}
			if !lock.Check(l) {
				t.Fatalf("%d: %s", seed, tell(l))
			}
		}
		for _, owner := range []int{seed % 4, (seed + 1) % 4, (seed + 2) % 4, (seed + 3) % 4} {
			l, _ = lock.Drop(l, owner)
			if slices.ContainsFunc(slices.Concat(l.Held, l.Queue), func(x api.Lock) bool { return x.Owner == owner }) {
				t.Fatalf("%d, %d: %s", seed, owner, tell(l))
			}
		}
		if len(l.Held)+len(l.Queue) > 0 {
			t.Fatalf("%d: %s", seed, tell(l))
		}
	}
}

// P11.5: who waits comes as soon as nobody who holds, or waited ahead, clashes: not later, and not sooner.
func TestWhoWaitsComes(t *testing.T) {
	l := locks("0:X:0")
	for owner := 1; owner <= 3; owner++ {
		m, e := lock.Ask(l, one(fmt.Sprintf("%d:X:0", owner)))
		if e != api.ErrWait {
			t.Fatalf("%d: %v", owner, e)
		}
		l = m
	}
	for owner := range 4 {
		if lock.Waits(l, owner) {
			t.Fatalf("%d waits: %s", owner, tell(l))
		}
		m, come := lock.Drop(l, owner)
		if owner < 3 && !slices.Equal(come, []int{owner + 1}) || owner == 3 && len(come) > 0 {
			t.Fatalf("%d: %v", owner, come)
		}
		l = m
	}
	if len(l.Held) > 0 {
		t.Errorf("%s", tell(l))
	}
}

// R1: long lists, and long texts.
func TestLong(t *testing.T) {
	many := make([]api.Lock, 1<<20)
	for i := range many {
		many[i] = one("0:S:0a")
	}
	for _, l := range []api.Locks{{Held: many}, {Queue: many}, {Held: many[:40], Queue: many}} {
		m, e := lock.Ask(l, one("1:S:0a"))
		n, come := lock.Drop(l, 0)
		if lock.Check(l) || lock.Waits(l, 0) || len(lock.Blockers(l, 0)) > 0 || e != api.ErrArg || len(come) > 0 {
			t.Error("many")
		}
		for _, x := range []api.Locks{m, n} {
			if len(x.Held) != len(l.Held) || len(x.Queue) != len(l.Queue) {
				t.Errorf("%d, %d", len(x.Held), len(x.Queue))
			}
		}
	}
	long := bytes.Repeat([]byte("k"), 1<<20)
	x := api.Lock{Span: api.Span{Lo: long, Open: true}, Mode: api.X}
	y := x
	y.Owner = 1
	if m, e := lock.Ask(api.Locks{Held: []api.Lock{x}}, y); e != api.ErrArg || !bytes.Equal(m.Held[0].Span.Lo, long) || !lock.Clash(x, y) {
		t.Error("a long key")
	}
}

// ask is what there is to call with.
type ask struct {
	L     api.Locks
	X, Y  api.Lock
	Owner int
}

// answers are what all calls answer, in words, and the locks, and owners, among these.
func (a ask) answers() (words string, all []api.Locks, owners [][]int) {
	l, e := lock.Ask(a.L, a.X)
	m, f := lock.Ask(l, a.Y)
	n, come := lock.Drop(a.L, a.Owner)
	o, others := lock.Drop(m, a.Owner)
	all = []api.Locks{l, m, n, o}
	owners = [][]int{come, others, lock.Blockers(a.L, a.Owner), lock.Blockers(m, a.Owner)}
	words = fmt.Sprint(lock.Check(a.L), lock.Clash(a.X, a.Y), lock.Waits(a.L, a.Owner), e, f, owners)
	for _, l := range all {
		words += "; " + tell(l)
	}
	return words, all, owners
}

// asks are some, of all kinds of answers.
func asks() []ask {
	var all []ask
	words := []string{"", "0:X:0", "0:X:0a", "0:S:0a- 1:S:0bd 2:IS:1|3:X:0b", "0:IS:0 1:S:0 2:S:1ac|3:X:0 2:IX:0", "0:X:0 1:X:1a-|0:S:1bd 1:S:0 2:X:0 3:X:1b", "0:X:0 1:X:0", "0:X:0a 1:X:0a|2:X:0a", "|0:X:0"}
	xs := list("0:X:0 1:S:0a- 2:X:0bd 3:IX:0 0:S:0a 1:X:0b 4:X:0 2::0 3:X:1b 1:SIX:1 0:X:0ca")
	for i, w := range words {
		for k, x := range xs {
			for owner := -1; owner <= 3; owner++ {
				all = append(all, ask{locks(w), x, xs[(i+k+owner+1)%len(xs)], owner})
			}
		}
	}
	for owner := range 4 {
		all = append(all, ask{filled(40, 3), one("0:S:0x"), one("0:S:0a"), owner}, ask{filled(39, 2), one("0:S:0x"), one("3:X:0a"), owner}, ask{filled(41, 3), one("0:S:0x"), one("3:X:0a"), owner})
	}
	return all
}

// held are the lists of locks of some.
func held(l api.Locks) [][]api.Lock { return [][]api.Lock{l.Held, l.Queue} }

// bytesOf are all byte lists of locks, those in the lists' spare room, too.
func bytesOf(l ...[]api.Lock) [][]byte {
	var all [][]byte
	for _, some := range l {
		for _, x := range some[:cap(some)] {
			all = append(all, x.Span.Lo, x.Span.Hi)
		}
	}
	return all
}

// room is where a list stands, with its spare room.
type room struct{ from, to uintptr }

// at is that of a list; none of one without any.
func at[T any](l []T) []room {
	if cap(l) == 0 {
		return nil
	}
	var x T
	from := uintptr(unsafe.Pointer(unsafe.SliceData(l)))
	return []room{{from, from + uintptr(cap(l))*unsafe.Sizeof(x)}}
}

// rooms are those of locks, of the lists they stand in, and of owners.
func rooms(l []api.Locks, owners [][]int) []room {
	var all []room
	for _, x := range l {
		for _, some := range held(x) {
			all = append(all, at(some)...)
		}
		for _, b := range bytesOf(held(x)...) {
			all = append(all, at(b)...)
		}
	}
	for _, o := range owners {
		all = append(all, at(o)...)
	}
	return all
}

// apart tells whether no room reaches into another one's.
func apart(all []room) bool {
	slices.SortFunc(all, func(a, b room) int { return int(a.from) - int(b.from) })
	for i := 1; i < len(all); i++ {
		if all[i].from < all[i-1].to {
			return false
		}
	}
	return true
}

// spoil overwrites locks, their bytes, and all spare room.
func spoil(lists ...[]api.Lock) {
	for _, b := range bytesOf(lists...) {
		for i := range b[:cap(b)] {
			b[:cap(b)][i] += 101
		}
	}
	for _, l := range lists {
		for i := range l[:cap(l)] {
			l[:cap(l)][i] = one("-7:X:9sp")
		}
	}
}

// spare is a list in memory of its own, with room behind it, in which something stands.
func spare[T any](l []T, more T) []T {
	return append(append(make([]T, 0, len(l)+1), l...), more)[:len(l)]
}

// twin is an ask in memory of its own, each list with spare room.
func twin(a ask) ask {
	own := func(x api.Lock) api.Lock {
		x.Span.Lo, x.Span.Hi = spare(x.Span.Lo, 'z'), spare(x.Span.Hi, 'z')
		return x
	}
	all := func(l []api.Lock) []api.Lock {
		l = spare(l, own(one("3:X:3sp")))
		for i, x := range l {
			l[i] = own(x)
		}
		return l
	}
	return ask{api.Locks{Held: all(a.L.Held), Queue: all(a.L.Queue)}, own(a.X), own(a.Y), a.Owner}
}

// parts are the lists of locks that are handed in.
func (a ask) parts() [][]api.Lock { return append(held(a.L), []api.Lock{a.X, a.Y}) }

// whole is all that is in an ask, the spare room in it.
func (a ask) whole() string {
	var b []byte
	for _, l := range a.parts() {
		b = append(append(b, said(l[:cap(l)]...)...), "; "...)
	}
	for _, l := range bytesOf(a.parts()...) {
		b = append(append(b, l[:cap(l)]...), ' ')
	}
	return string(b)
}

// handed are the rooms of what is handed in.
func (a ask) handed() []room {
	all := rooms([]api.Locks{a.L}, nil)
	for _, b := range bytesOf([]api.Lock{a.X, a.Y}) {
		all = append(all, at(b)...)
	}
	return all
}

// R3, R4: nothing is written into what is handed in, or its spare room, by a call, or by who has its answers.
func TestArgumentsStay(t *testing.T) {
	for _, a := range asks() {
		own := twin(a)
		was := own.whole()
		_, all, _ := own.answers()
		for _, l := range all {
			spoil(held(l)...)
		}
		if own.whole() != was {
			t.Fatalf("%v: what was handed in is changed", a)
		}
	}
}

// R4: what is answered stays, whatever becomes of what was handed in.
func TestAnswersStay(t *testing.T) {
	for _, a := range asks() {
		own := twin(a)
		_, all, owners := own.answers()
		_, want, _ := a.answers()
		_, again, _ := own.answers()
		spoil(own.parts()...)
		for _, l := range again {
			spoil(held(l)...)
		}
		for i, l := range all {
			if tell(l) != tell(want[i]) {
				t.Fatalf("%v: %s for %s", a, tell(l), tell(want[i]))
			}
		}
		for _, o := range owners {
			for i := range o {
				o[i] += 9
			}
		}
		if words, _, _ := a.answers(); words != twinWords(a) {
			t.Fatalf("%v: %s", a, words)
		}
	}
}

// twinWords are the words of a twin's answers.
func twinWords(a ask) string {
	words, _, _ := twin(a).answers()
	return words
}

// R4: no two lists of one answer share memory, nor do an answer's and an argument's, nor two answers'; also where those of an argument do.
func TestListsApart(t *testing.T) {
	for _, a := range asks() {
		own := twin(a)
		_, first, some := own.answers()
		_, second, others := own.answers()
		if !apart(slices.Concat(rooms(first, some), rooms(second, others), own.handed())) {
			t.Fatalf("%v: memory is shared", a)
		}
		// Memory that nobody has any more may be another one's.
		runtime.KeepAlive([]any{own, first, second, some, others})
	}
	text := []byte("abcdefghijklmnop")
	x := api.Lock{Span: api.Span{Lo: text[:1], Hi: text[1:3]}, Mode: api.S}
	y := api.Lock{Owner: 1, Span: api.Span{Lo: text[:1], Hi: text[1:3]}, Mode: api.X}
	both := []api.Lock{x, x, y, y}
	for _, a := range []ask{{api.Locks{Held: both[:2], Queue: both[2:3]}, x, x, 0}, {api.Locks{Held: both[:2:2]}, y, x, 0}, {api.Locks{Held: both, Queue: both}, y, x, 0}, {api.Locks{Held: both[:0]}, y, x, 1}, {api.Locks{Held: both[:1], Queue: both[2:3]}, x, y, 1}} {
		_, all, owners := a.answers()
		if !apart(rooms(all, owners)) {
			t.Errorf("%v: memory is shared", a)
		}
		for _, r := range a.handed() {
			if !apart(append(rooms(all, owners), r)) {
				t.Errorf("%v: memory is shared with an argument", a)
			}
		}
		for _, l := range all {
			spoil(held(l)...)
		}
		if string(text) != "abcdefghijklmnop" || said(both...) != said(x, x, y, y) {
			t.Errorf("%v: %s, %s", a, text, said(both...))
		}
		runtime.KeepAlive(all)
	}
}

// R4, R5: locks go on two ways, each as if there were no other one.
func TestTwoWays(t *testing.T) {
	for _, words := range []string{"", "0:IS:1", "0:S:0 1:IS:1 2:IS:1", "0:X:0 1:X:2a|1:S:0 2:S:0"} {
		l, _ := lock.Ask(locks(words), one("3:IS:3"))
		was := tell(l)
		a, _ := lock.Ask(l, one("3:X:3m"))
		b, _ := lock.Ask(l, one("3:X:3n"))
		c, _ := lock.Ask(l, one("3:X:0"))
		d, _ := lock.Ask(l, one("3:IX:3"))
		f, _ := lock.Drop(l, 0)
		if tell(l) != was {
			t.Errorf("%s: %s", was, tell(l))
		}
		for x, got := range map[string]api.Locks{"3:X:3m": a, "3:X:3n": b, "3:X:0": c, "3:IX:3": d} {
			if want, _ := asked(l, one(x)); tell(got) != tell(want) {
				t.Errorf("%s and %s: %s", was, x, tell(got))
			}
		}
		if want, _ := dropped(l, 0); tell(f) != tell(want) {
			t.Errorf("%s: %s", was, tell(f))
		}
	}
}

// R5: spare room, what stands in it, whether an empty list is nil, and what was asked ahead, or beside, is nothing to an answer.
func TestNothingElseMatters(t *testing.T) {
	var first []string
	all := asks()
	for _, a := range all {
		words, _, _ := a.answers()
		first = append(first, words)
	}
	done := make(chan bool)
	for range 3 {
		go func() {
			for i, a := range slices.Backward(all) {
				if words, _, _ := a.answers(); words != first[i] {
					t.Errorf("%v: %s, ahead of it %s", a, words, first[i])
				}
				if words := twinWords(a); words != first[i] {
					t.Errorf("%v, with spare room: %s, ahead of it %s", a, words, first[i])
				}
			}
			done <- true
		}()
	}
	for range 3 {
		<-done
	}
	none := []byte{}
	filled := ask{api.Locks{Held: []api.Lock{{Whole: true, Span: api.Span{Lo: none, Hi: none}, Mode: api.IS}}, Queue: []api.Lock{}}, api.Lock{Owner: 1, Whole: true, Span: api.Span{Lo: none, Hi: none}, Mode: api.X}, api.Lock{Owner: 2, Span: api.Span{Lo: none, Hi: none, Open: true}, Mode: api.X}, 0}
	bare := ask{api.Locks{Held: []api.Lock{{Whole: true, Mode: api.IS}}}, api.Lock{Owner: 1, Whole: true, Mode: api.X}, api.Lock{Owner: 2, Span: api.Span{Open: true}, Mode: api.X}, 0}
	x, _, _ := filled.answers()
	y, _, _ := bare.answers()
	if x != y {
		t.Errorf("%s, and %s", x, y)
	}
}
