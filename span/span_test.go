package span_test

import (
	"bytes"
	"fmt"
	"maps"
	"math"
	"runtime"
	"slices"
	"strconv"
	"strings"
	"testing"
	"unsafe"

	"banksman/api"
	"banksman/span"
)

// from and upTo are spans.
func from(table int, lo string) api.Span {
	return api.Span{Table: table, Lo: []byte(lo), Open: true}
}
func upTo(table int, lo, hi string) api.Span {
	return api.Span{Table: table, Lo: []byte(lo), Hi: []byte(hi)}
}

// tell is what there is to say of spans; whether an empty list is nil is nothing to it.
func tell(l ...api.Span) string {
	var b []byte
	for _, x := range l {
		b = strconv.AppendQuote(append(strconv.AppendInt(b, int64(x.Table), 10), ' '), string(x.Lo))
		b = strconv.AppendQuote(append(b, ' '), string(x.Hi))
		if x.Open {
			b = append(b, " open"...)
		}
		b = append(b, ", "...)
	}
	return string(b)
}

// named are all of a map, in its names' order.
func named[T any](m map[string]T) func(yield func(string, T) bool) {
	return func(yield func(string, T) bool) {
		for _, k := range slices.Sorted(maps.Keys(m)) {
			if !yield(k, m[k]) {
				return
			}
		}
	}
}

// numbers are tables that there are, those beside them, those that look like one cut short, and the ends.
func numbers() []int {
	return []int{math.MinInt, math.MinInt + 1, math.MinInt32, -257, -256, -4, -3, -2, -1, 0, 1, 2, 3, 4, 5, 8, 255, 256, 257, 1 << 16, math.MaxInt32, 1 << 31, 1 << 32, 1<<32 + 1, 1<<32 + 3, 1<<62 + 2, math.MaxInt - 1, math.MaxInt}
}

// right are spans that may be.
func right() map[string]api.Span {
	return map[string]api.Span{
		"nothing":         {},
		"empty lists":     {Lo: []byte{}, Hi: []byte{}},
		"all":             from(0, ""),
		"all, no Hi":      {Table: 3, Lo: []byte{}, Hi: []byte{}, Open: true},
		"a part":          upTo(1, "a", "c"),
		"from one on":     from(2, "b"),
		"up to one":       upTo(3, "", "b"),
		"one key":         upTo(0, "k", "k\x00"),
		"no key":          upTo(0, "k", "k"),
		"turned":          upTo(2, "z", "a"),
		"17 of Lo":        upTo(0, strings.Repeat("l", 17), ""),
		"17 of Lo, open":  from(0, strings.Repeat("l", 17)),
		"17 of Hi":        upTo(1, "", strings.Repeat("h", 17)),
		"17 of both":      upTo(3, strings.Repeat("l", 17), strings.Repeat("h", 17)),
		"the last, alone": upTo(2, strings.Repeat("\xff", 16), strings.Repeat("\xff", 16)+"\x00"),
		"any bytes":       upTo(0, "\x00\xff\x80", "\xff\x00"),
	}
}

// wrong are spans that may not be, each for one reason.
func wrong() map[string]api.Span {
	all := map[string]api.Span{
		"18 of Lo":        upTo(0, strings.Repeat("l", 18), ""),
		"18 of Lo, open":  from(0, strings.Repeat("l", 18)),
		"18 of Hi":        upTo(1, "", strings.Repeat("h", 18)),
		"17, and 18":      upTo(1, strings.Repeat("l", 17), strings.Repeat("h", 18)),
		"18, and 17":      upTo(1, strings.Repeat("l", 18), strings.Repeat("m", 17)),
		"256 of Lo":       upTo(3, strings.Repeat("l", 256), "m"),
		"256 of Hi":       upTo(3, "a", strings.Repeat("h", 256)),
		"open, with Hi":   {Hi: []byte("a"), Open: true},
		"open, with a 0":  {Table: 2, Lo: []byte("a"), Hi: []byte{0}, Open: true},
		"open, 17 of Hi":  {Table: 3, Hi: bytes.Repeat([]byte("h"), 17), Open: true},
		"open, 256 of Hi": {Hi: make([]byte, 256), Open: true},
	}
	for _, table := range numbers() {
		if table < 0 || table > 3 {
			all["table "+strconv.Itoa(table)] = upTo(table, "a", "b")
			all["open, table "+strconv.Itoa(table)] = from(table, "")
			all["empty, table "+strconv.Itoa(table)] = upTo(table, "", "")
		}
	}
	return all
}

// keys are some of all lengths, near to one another, rising.
func keys() []string {
	long := strings.Repeat("k", 16)
	all := []string{"", "\x00", "\x00\x00", "a", "a\x00", "a\x00\x00", "a\x01", "aa", "b", "b\x00", "\x7f", "\x80", "\xff", "\xff\x00", "\xff\xff", long, long + "\x00", long + "\x00\x00", long + "l", strings.Repeat("a", 300), strings.Repeat("\xff", 300)}
	slices.Sort(all)
	return all
}

// is tells whether a key is in a span, by the chapter's words.
func is(x api.Span, table int, key string) bool {
	if table != x.Table || key < string(x.Lo) {
		return false
	}
	return x.Open || key < string(x.Hi)
}

// some are spans of two tables that there are, and of two others, with all ends of ends, open, or not, or open with a Hi.
func some(ends ...string) []api.Span {
	var all []api.Span
	for _, table := range []int{-1, 0, 2, 4} {
		for _, lo := range ends {
			all = append(all, from(table, lo))
			for _, hi := range ends {
				all = append(all, upTo(table, lo, hi), api.Span{Table: table, Lo: []byte(lo), Hi: []byte(hi), Open: true})
			}
		}
	}
	return all
}

// spans are some, with ends of up to two bytes, of all lengths, and of lengths that an end may not have.
func spans() []api.Span {
	return slices.Concat(some("", "\x00", "a", "a\x00", "b", "\xff"), some("a", strings.Repeat("a", 17), strings.Repeat("a", 18)))
}

// witnesses are the keys of which each span of spans, and what is in one of them and not in another one, has one, if it has any: the ends, and one above all.
func witnesses() []string {
	return []string{"", "\x00", "a", "a\x00", strings.Repeat("a", 17), strings.Repeat("a", 18), "b", "\xff", "\xff\xff"}
}

// P10.1
func TestCheck(t *testing.T) {
	for what, x := range named(right()) {
		if !span.Check(x) {
			t.Errorf("%s is refused", what)
		}
	}
	for what, x := range named(wrong()) {
		if span.Check(x) {
			t.Errorf("%s", what)
		}
	}
}

// P10.1: each length of both ends, of all tables, open or not.
func TestCheckOfMany(t *testing.T) {
	sizes := []int{0, 1, 2, 15, 16, 17, 18, 19, 32, 33, 255, 256, 257, 272, 273, 1<<16 + 1}
	for _, table := range numbers() {
		for _, lo := range sizes {
			for _, hi := range sizes {
				for _, open := range []bool{false, true} {
					want := 0 <= table && table <= 3 && lo <= 17 && hi <= 17 && !(open && hi > 0)
					x := api.Span{Table: table, Lo: make([]byte, lo), Hi: make([]byte, hi), Open: open}
					if span.Check(x) != want {
						t.Fatalf("table %d, %d, %d, %v: not %v", table, lo, hi, open, want)
					}
				}
			}
		}
	}
}

// P10.1
func TestPoint(t *testing.T) {
	for _, table := range numbers() {
		for _, k := range keys() {
			x := span.Point(table, []byte(k))
			if x.Table != table || string(x.Lo) != k || string(x.Hi) != k+"\x00" || x.Open {
				t.Errorf("%d, %q: %s", table, k, tell(x))
			}
			if want := table >= 0 && table <= 3 && len(k) <= 16; span.Check(x) != want {
				t.Errorf("%d, %q: not %v", table, k, want)
			}
		}
		if x := span.Point(table, nil); tell(x) != tell(upTo(table, "", "\x00")) {
			t.Errorf("%d, nil: %s", table, tell(x))
		}
	}
}

// P10.4: a key is in Point of itself alone.
func TestPointIsOfOneKey(t *testing.T) {
	for _, k := range keys() {
		x := span.Point(1, []byte(k))
		if span.Empty(x) {
			t.Errorf("%q: empty", k)
		}
		for _, other := range keys() {
			for _, table := range numbers() {
				if want := table == 1 && other == k; span.In(x, table, []byte(other)) != want {
					t.Errorf("%q, %d, %q: not %v", k, table, other, want)
				}
			}
			if span.Meets(x, span.Point(1, []byte(other))) != (other == k) {
				t.Errorf("%q, %q: meets", k, other)
			}
			if span.Covers(x, span.Point(1, []byte(other))) != (other == k) {
				t.Errorf("%q, %q: covers", k, other)
			}
		}
	}
}

// P10.1, P10.2: all keys of a table are in All of it, and none of another one.
func TestAll(t *testing.T) {
	for _, table := range numbers() {
		x := span.All(table)
		if x.Table != table || len(x.Lo) > 0 || len(x.Hi) > 0 || !x.Open || span.Empty(x) {
			t.Errorf("%d: %s", table, tell(x))
		}
		if want := table >= 0 && table <= 3; span.Check(x) != want {
			t.Errorf("%d: not %v", table, want)
		}
		for _, k := range keys() {
			for _, other := range numbers() {
				if span.In(x, other, []byte(k)) != (other == table) {
					t.Errorf("%d, %d, %q", table, other, k)
				}
			}
		}
	}
}

// P10.2
func TestEmpty(t *testing.T) {
	for what, c := range named(map[string]struct {
		x    api.Span
		want bool
	}{
		"nothing":            {api.Span{}, true},
		"all":                {span.All(0), false},
		"up to itself":       {upTo(0, "b", "b"), true},
		"up to less":         {upTo(0, "b", "a"), true},
		"up to its first":    {upTo(0, "bb", "b"), true},
		"up to nothing":      {upTo(0, "b", ""), true},
		"up to more":         {upTo(0, "b", "c"), false},
		"up to longer":       {upTo(0, "b", "bb"), false},
		"one key":            {upTo(0, "b", "b\x00"), false},
		"the least key":      {upTo(0, "", "\x00"), false},
		"bytes, not letters": {upTo(0, "\x7f", "\x80"), false},
		"bytes, turned":      {upTo(0, "\x80", "\x7f"), true},
		"longer, but less":   {upTo(0, "a", strings.Repeat("A", 17)), true},
		"open, with a Hi":    {api.Span{Lo: []byte("b"), Hi: []byte("a"), Open: true}, false},
		"open, Hi as Lo":     {api.Span{Lo: []byte("b"), Hi: []byte("b"), Open: true}, false},
		"table 7":            {upTo(7, "a", "b"), false},
		"table -7":           {upTo(-7, "b", "a"), true},
		"long":               {upTo(0, strings.Repeat("a", 100), strings.Repeat("a", 101)), false},
		"long, turned":       {upTo(0, strings.Repeat("a", 101), strings.Repeat("a", 100)), true},
	}) {
		if span.Empty(c.x) != c.want {
			t.Errorf("%s: not %v", what, c.want)
		}
	}
}

// P10.2: a span is Empty, if no key is in it.
func TestEmptyHasNoKey(t *testing.T) {
	for _, x := range spans() {
		has := slices.ContainsFunc(witnesses(), func(k string) bool { return is(x, x.Table, k) })
		if span.Empty(x) == has {
			t.Errorf("%s: %v", tell(x), !has)
		}
	}
}

// P10.2
func TestIn(t *testing.T) {
	x := upTo(2, "b", "d")
	for key, want := range named(map[string]bool{"": false, "a": false, "a\xff": false, "b": true, "b\x00": true, "bb": true, "c": true, "c\xff\xff": true, "d": false, "d\x00": false, "e": false, "\xff": false}) {
		if span.In(x, 2, []byte(key)) != want {
			t.Errorf("%q: not %v", key, want)
		}
		if span.In(x, 1, []byte(key)) || span.In(x, 3, []byte(key)) {
			t.Errorf("%q is of another table", key)
		}
	}
	if !span.In(upTo(0, "", "a"), 0, nil) || span.In(upTo(0, "\x00", "a"), 0, nil) {
		t.Error("no bytes")
	}
}

// P10.2: of all spans, those that may not be, too, and keys of any length.
func TestInOfMany(t *testing.T) {
	for _, x := range spans() {
		for _, k := range slices.Concat(keys(), witnesses()) {
			for _, table := range []int{-1, 0, 1, 2, 4, x.Table + 1<<32} {
				if want := is(x, table, k); span.In(x, table, []byte(k)) != want {
					t.Fatalf("%s, %d, %q: not %v", tell(x), table, k, want)
				}
			}
		}
	}
}

// P10.2: the chapter's example, and others.
func TestMeetsAndCovers(t *testing.T) {
	for what, c := range named(map[string]struct {
		a, b          api.Span
		meets, covers bool
	}{
		"a, from b on":       {span.Point(0, []byte("a")), from(0, "b"), false, false},
		"from a on, b":       {from(0, "a"), span.Point(0, []byte("b")), true, true},
		"itself":             {upTo(0, "a", "c"), upTo(0, "a", "c"), true, true},
		"a part":             {upTo(0, "a", "d"), upTo(0, "b", "c"), true, true},
		"its beginning":      {upTo(0, "a", "d"), upTo(0, "a", "c"), true, true},
		"its end":            {upTo(0, "a", "d"), upTo(0, "b", "d"), true, true},
		"a greater one":      {upTo(0, "b", "c"), upTo(0, "a", "d"), true, false},
		"one further on":     {upTo(0, "a", "c"), upTo(0, "b", "d"), true, false},
		"one further ahead":  {upTo(0, "b", "d"), upTo(0, "a", "c"), true, false},
		"the next one":       {upTo(0, "a", "b"), upTo(0, "b", "c"), false, false},
		"the one ahead":      {upTo(0, "b", "c"), upTo(0, "a", "b"), false, false},
		"one far on":         {upTo(0, "a", "b"), upTo(0, "c", "d"), false, false},
		"by one key":         {upTo(0, "a", "b\x00"), from(0, "b"), true, false},
		"both open":          {from(0, "a"), from(0, "b"), true, true},
		"both open, ahead":   {from(0, "b"), from(0, "a"), true, false},
		"open, of the same":  {from(0, "b"), from(0, "b"), true, true},
		"open, an end":       {from(0, "a"), upTo(0, "a", "b"), true, true},
		"an end, open":       {upTo(0, "a", "\xff"), from(0, "b"), true, false},
		"other tables":       {from(0, ""), from(1, ""), false, false},
		"other, with ends":   {upTo(0, "a", "d"), upTo(3, "b", "c"), false, false},
		"empty":              {upTo(0, "a", "d"), upTo(0, "b", "b"), false, true},
		"empty, elsewhere":   {upTo(0, "a", "d"), upTo(0, "e", "e"), false, true},
		"empty, other table": {upTo(0, "a", "d"), upTo(1, "c", "b"), false, true},
		"of an empty one":    {upTo(0, "b", "b"), upTo(0, "a", "c"), false, false},
		"of a turned one":    {upTo(0, "c", "a"), upTo(0, "b", "c"), false, false},
		"of one turned, too": {upTo(0, "d", "b"), upTo(0, "a", "e"), false, false},
		"both empty":         {upTo(0, "b", "b"), upTo(0, "c", "a"), false, true},
		"empty, other one":   {upTo(0, "b", "b"), upTo(2, "b", "b"), false, true},
		"open, with Hi":      {api.Span{Lo: []byte("b"), Hi: []byte("c"), Open: true}, upTo(0, "d", "e"), true, true},
		"an open one's Hi":   {upTo(0, "a", "e"), api.Span{Lo: []byte("b"), Hi: []byte("c"), Open: true}, true, false},
	}) {
		if span.Meets(c.a, c.b) != c.meets || span.Meets(c.b, c.a) != c.meets {
			t.Errorf("%s: %v, and %v", what, span.Meets(c.a, c.b), span.Meets(c.b, c.a))
		}
		if span.Covers(c.a, c.b) != c.covers {
			t.Errorf("%s: not %v", what, c.covers)
		}
	}
}

// P10.2: by the keys that are in both, and in one.
func TestMeetsAndCoversOfMany(t *testing.T) {
	for _, a := range spans() {
		for _, b := range spans() {
			meets, covers := false, true
			for _, k := range witnesses() {
				in := is(b, b.Table, k)
				meets = meets || in && is(a, b.Table, k)
				covers = covers && (!in || is(a, b.Table, k))
			}
			if span.Meets(a, b) != meets {
				t.Fatalf("%s %s: not %v", tell(a), tell(b), meets)
			}
			if span.Covers(a, b) != covers {
				t.Fatalf("%s %s: does not cover: %v", tell(a), tell(b), covers)
			}
		}
	}
}

// P10.3: what Add answers, by the chapter's words.
func added(l []api.Span, x api.Span, most int) ([]api.Span, api.Errno) {
	all := append(slices.Clone(l), x)
	for _, s := range all {
		if !span.Check(s) {
			return l, api.ErrArg
		}
	}
	if most < 1 || most > 100 {
		return l, api.ErrArg
	}
	if span.Empty(x) {
		return l, api.OK
	}
	var left, of []api.Span
	for _, s := range l {
		if span.Covers(s, x) {
			return l, api.OK
		}
		if !span.Covers(x, s) {
			left = append(left, s)
		}
	}
	left = append(left, x)
	for _, s := range left {
		if s.Table == x.Table {
			of = append(of, s)
		}
	}
	if len(of) <= most {
		return left, api.OK
	}
	var one []api.Span
	done := false
	for _, s := range left {
		switch {
		case s.Table != x.Table:
			one = append(one, s)
		case !done:
			one = append(one, api.Span{Table: x.Table, Open: true})
			done = true
		}
	}
	return one, api.OK
}

// letters are spans, each as its table, and its ends as letters: 0ac; one of a letter is open; 0 alone is all of it.
func letters(words string) []api.Span {
	var l []api.Span
	for _, w := range strings.Fields(words) {
		table := int(w[0] - '0')
		switch {
		case len(w) == 1:
			l = append(l, span.All(table))
		case len(w) == 2:
			l = append(l, from(table, w[1:]))
		default:
			l = append(l, upTo(table, w[1:2], w[2:]))
		}
	}
	return l
}

// P10.3
func TestAdd(t *testing.T) {
	for what, c := range named(map[string]struct {
		l, x string
		most int
		want string
	}{
		"the first":             {"", "0ab", 1, "0ab"},
		"all, the first":        {"", "3", 1, "3"},
		"behind":                {"0ab 0cd", "0ef", 3, "0ab 0cd 0ef"},
		"behind, though less":   {"0cd 0ef", "0ab", 3, "0cd 0ef 0ab"},
		"behind, one that hits": {"0ac", "0bd", 2, "0ac 0bd"},
		"behind, the next one":  {"0ab", "0bc", 2, "0ab 0bc"},
		"of both, of none":      {"0ac 0ce", "0bd", 3, "0ac 0ce 0bd"},
		"empty":                 {"0ab 0cd", "0ee", 3, "0ab 0cd"},
		"empty, the first":      {"", "0ee", 3, ""},
		"turned":                {"0ab 0cd", "0fe", 1, "0ab 0cd"},
		"empty, among empty":    {"0bb 1cc", "0dd", 1, "0bb 1cc"},
		"covered, by the same":  {"0ab 0cd", "0cd", 2, "0ab 0cd"},
		"covered, by the first": {"0ad 0de", "0bc", 1, "0ad 0de"},
		"covered, by the last":  {"0ab 1 0bz", "0cd", 1, "0ab 1 0bz"},
		"covered, by all":       {"2ab 0 1", "0cd", 1, "2ab 0 1"},
		"covered, open":         {"0b", "0c", 1, "0b"},
		"covers, the first":     {"0bc 0xy", "0ad", 2, "0xy 0ad"},
		"covers, the last":      {"0xy 0bc", "0ad", 2, "0xy 0ad"},
		"covers, several":       {"0bc 1bc 0xy 0cd 0ab", "0ae", 2, "1bc 0xy 0ae"},
		"covers, all":           {"0bc 1bc 0xy 0ad", "0", 1, "1bc 0"},
		"covers, empty ones":    {"0zz 1bb 0xy 2ba", "0ad", 2, "0xy 0ad"},
		"too many":              {"0ab 0cd", "0ef", 2, "0"},
		"too many of 1":         {"0ab", "0cd", 1, "0"},
		"too many, at first":    {"0ab 1ab 0cd 2ab 0ef", "0gh", 3, "0 1ab 2ab"},
		"too many, in between":  {"1ab 0ab 1cd 0cd 2ab", "0gh", 2, "1ab 0 1cd 2ab"},
		"too many, at last":     {"1ab 2ab 0ab", "0gh", 1, "1ab 2ab 0"},
		"too many ahead":        {"0ab 0cd 0ef 1ab", "0gh", 1, "0 1ab"},
		"too many elsewhere":    {"0ab 0cd 0ef", "1ab", 1, "0ab 0cd 0ef 1ab"},
		"too many, but covered": {"0ab 0cd 0ef", "0cd", 1, "0ab 0cd 0ef"},
		"too many, but empty":   {"0ab 0cd 0ef", "0xx", 1, "0ab 0cd 0ef"},
		"as many, covering one": {"0ab 0cd", "0ce", 2, "0ab 0ce"},
		"first goes, too many":  {"0bc 1ab 0xy 0rs", "0ad", 2, "1ab 0"},
		"just as many":          {"0ab 0cd 0ef", "0gh", 4, "0ab 0cd 0ef 0gh"},
		"other tables count":    {"1ab 2ab 3ab", "0ab", 1, "1ab 2ab 3ab 0ab"},
	}) {
		l, e := span.Add(letters(c.l), letters(c.x)[0], c.most)
		if tell(l...) != tell(letters(c.want)...) || e != api.OK {
			t.Errorf("%s: %v, %s", what, e, tell(l...))
		}
	}
}

// P10.3: the greatest most there may be, and the bounds of others.
func TestAddOfMost(t *testing.T) {
	for _, many := range []int{1, 2, 3, 50, 98, 99, 100, 101, 200, 300} {
		l := []api.Span{upTo(1, "a", "b")}
		for i := range many {
			l = append(l, span.Point(2, []byte{byte(i), byte(i >> 8)}))
		}
		for _, most := range slices.Concat(numbers(), []int{98, 99, 100, 101, 102, 200, 1<<32 + 100}) {
			got, e := span.Add(l, span.Point(2, []byte("new")), most)
			want := append(slices.Clone(l), span.Point(2, []byte("new")))
			err := api.OK
			switch {
			case most < 1 || most > 100:
				want, err = l, api.ErrArg
			case many+1 > most:
				want = []api.Span{upTo(1, "a", "b"), span.All(2)}
			}
			if tell(got...) != tell(want...) || e != err {
				t.Errorf("%d, %d: %v, %s", many, most, e, tell(got...))
			}
		}
	}
}

// P10.3: what may not be is refused, whatever else there is, and l stays.
func TestAddWrong(t *testing.T) {
	refused := func(what string, l []api.Span, x api.Span, most int) {
		got, e := span.Add(l, x, most)
		if tell(got...) != tell(l...) || e != api.ErrArg {
			t.Errorf("%s: %v, %s for %s", what, e, tell(got...), tell(l...))
		}
	}
	good := letters("0ab 1 0dc 2ef")
	for what, x := range named(wrong()) {
		refused(what, nil, x, 1)
		refused(what, good, x, 4)
		refused(what, []api.Span{x}, x, 4)
		refused(what, letters("0 1 2 3"), x, 4)
		for at := range len(good) + 1 {
			l := slices.Insert(slices.Clone(good), at, x)
			refused(what, l, upTo(3, "a", "b"), 4)
			refused(what+", covered", l, upTo(1, "a", "b"), 4)
			refused(what+", empty", l, upTo(1, "b", "b"), 4)
			refused(what+", too many", l, upTo(0, "f", "g"), 1)
		}
		refused(what+", most 0", good, x, 0)
	}
	for _, most := range []int{0, -1, -100, 101, 1000, math.MinInt, math.MaxInt, 1<<32 + 1, 1 << 8, 1<<8 + 1} {
		for what, x := range named(right()) {
			refused(what, nil, x, most)
			refused(what, good, x, most)
			refused(what, []api.Span{x}, x, most)
		}
	}
}

// few are spans that may be, of two tables, and one that may not be.
func few() []api.Span {
	return append(letters("0 0b 0bc 0ac 0cd 0cb 0zz 1 1bc 1cd 1cc"), from(4, ""))
}

// lists are all lists of so many of few.
func lists(size int) [][]api.Span {
	all := [][]api.Span{nil}
	for range size {
		var longer [][]api.Span
		for _, l := range all {
			for _, x := range few() {
				longer = append(longer, append(slices.Clone(l), x))
			}
		}
		all = longer
	}
	return all
}

// P10.3, P10.4: all lists of up to three, and what is added to them.
func TestAddOfMany(t *testing.T) {
	for size := range 4 {
		for _, l := range lists(size) {
			for _, x := range few() {
				for most := range 4 {
					got, e := span.Add(l, x, most)
					want, err := added(l, x, most)
					if tell(got...) != tell(want...) || e != err {
						t.Fatalf("%s and %s, %d: %v, %s", tell(l...), tell(x), most, e, tell(got...))
					}
				}
			}
		}
	}
}

// in tells whether a table's key is in one of spans.
func in(l []api.Span, table int, key string) bool {
	return slices.ContainsFunc(l, func(x api.Span) bool { return is(x, table, key) })
}

// P10.4: behind Add there is all that was, and what is added, and nothing else, but for a table that became one.
func TestAddKeeps(t *testing.T) {
	refused := func(x api.Span) bool { return !span.Check(x) }
	for _, start := range lists(2) {
		for _, x := range few() {
			for _, most := range []int{1, 2, 3} {
				if slices.ContainsFunc(append(slices.Clone(start), x), refused) {
					continue
				}
				got, e := span.Add(start, x, most)
				if e != api.OK {
					t.Fatalf("%s and %s, %d: %v", tell(start...), tell(x), most, e)
				}
				for table := range 4 {
					whole := slices.ContainsFunc(got, func(s api.Span) bool { return tell(s) == tell(span.All(table)) })
					for _, k := range []string{"", "a", "b", "b\x00", "c", "d", "y", "z", "z\x00", "\xff"} {
						was := in(start, table, k) || is(x, table, k)
						if is := in(got, table, k); was && !is || !was && is && !(whole && table == x.Table) {
							t.Fatalf("%s and %s, %d: %d, %q: %v", tell(start...), tell(x), most, table, k, is)
						}
					}
				}
			}
		}
	}
}

// P10.3, P10.4: one more, and more, and more: at no time are there more of a table than most, nor is one covered by one behind.
func TestAddOneByOne(t *testing.T) {
	for most := 1; most <= 6; most++ {
		for seed := range 60 {
			var l, all []api.Span
			n := uint32(seed*7919 + most)
			next := func(below int) int {
				n = n*1664525 + 1013904223
				return int(n>>16) % below
			}
			for range 25 {
				x := upTo(next(4), string(rune('a'+next(20))), string(rune('a'+next(20))))
				all = append(all, x)
				want, _ := added(l, x, most)
				got, e := span.Add(l, x, most)
				if e != api.OK || tell(got...) != tell(want...) {
					t.Fatalf("%s and %s: %v, %s", tell(l...), tell(x), e, tell(got...))
				}
				l = got
				var many [4]int
				for i, s := range l {
					if many[s.Table]++; many[s.Table] > most {
						t.Fatalf("%d: %s", most, tell(l...))
					}
					for _, other := range l[:i] {
						if span.Covers(s, other) || span.Covers(other, s) {
							t.Fatalf("%s covers %s", tell(s), tell(other))
						}
					}
				}
			}
			for _, x := range all {
				for c := 'a'; c <= 'z'; c++ {
					if is(x, x.Table, string(c)) && !in(l, x.Table, string(c)) {
						t.Fatalf("%s: %c is gone of %s", tell(x), c, tell(l...))
					}
				}
			}
		}
	}
}

// R1: long lists, and long texts.
func TestLong(t *testing.T) {
	long := bytes.Repeat([]byte("k"), 1<<20)
	x := span.Point(0, long)
	if !bytes.Equal(x.Lo, long) || len(x.Hi) != len(long)+1 || !span.In(x, 0, long) || span.In(x, 0, long[1:]) || span.Check(x) || !span.Meets(x, x) || !span.Covers(x, x) {
		t.Error("a long key")
	}
	var l []api.Span
	for i := range 1 << 16 {
		l = append(l, span.Point(i%3, []byte{byte(i), byte(i >> 8)}))
	}
	got, e := span.Add(l, span.Point(3, []byte("a")), 1)
	if len(got) != len(l)+1 || e != api.OK {
		t.Errorf("%d, %v", len(got), e)
	}
	got, e = span.Add(l, span.Point(2, []byte("aaa")), 100)
	if len(got) != (len(l)+2)/3+len(l)/3+1 || e != api.OK || tell(got[2]) != tell(span.All(2)) {
		t.Errorf("%d, %v", len(got), e)
	}
	got, e = span.Add(l, span.All(1), 100)
	if len(got) != (len(l)+2)/3+len(l)/3+1 || e != api.OK || tell(got[len(got)-1]) != tell(span.All(1)) {
		t.Errorf("%d, %v", len(got), e)
	}
}

// ask is what there is to call with.
type ask struct {
	L     []api.Span
	X, Y  api.Span
	Table int
	Key   []byte
	Most  int
}

// all are the spans of one.
func (a ask) all() []api.Span { return append(slices.Clone(a.L), a.X, a.Y) }

// answers are what all calls answer, in words, and the spans among these: those of one answer are one list.
func (a ask) answers() (words string, lists [][]api.Span) {
	l, e := span.Add(a.L, a.X, a.Most)
	m, f := span.Add(a.all(), a.Y, a.Most)
	p, w := span.Point(a.Table, a.Key), span.All(a.Table)
	lists = [][]api.Span{l, m, {p}, {w}}
	words = fmt.Sprint(span.Check(a.X), span.Empty(a.X), span.In(a.X, a.Table, a.Key), span.Meets(a.X, a.Y), span.Covers(a.X, a.Y), e, f)
	for _, l := range lists {
		words += "; " + tell(l...)
	}
	return words, lists
}

// asks are some, of all kinds of answers.
func asks() []ask {
	var all []ask
	lists := [][]api.Span{nil, {}, letters("0ab"), letters("0ab 1 0cd"), letters("0bb 2cc 0ef 1ba"), letters("0ab 0cd 0ef 0gh 1ab"), few(), slices.Collect(maps.Values(right()))}
	xs := append(few(), span.Point(0, []byte("b")), span.Point(3, nil), api.Span{}, api.Span{Hi: []byte("h"), Open: true}, upTo(1, strings.Repeat("l", 18), "m"))
	for i, l := range lists {
		for k, x := range xs {
			for _, most := range []int{0, 1, 2, 100} {
				all = append(all, ask{l, x, xs[(i+k)%len(xs)], (i + k) % 4, []byte("key"[:k%4]), most})
			}
		}
	}
	return all
}

// bytesOf are all byte lists of spans, those in the list's spare room, too.
func bytesOf(l []api.Span) [][]byte {
	var all [][]byte
	for _, x := range l[:cap(l)] {
		all = append(all, x.Lo, x.Hi)
	}
	return all
}

// room is where a list stands, with its spare room.
type room struct{ from, to uintptr }

// at is that of a list; none of one without any.
func at[T any](l []T) []room {
	if cap(l) == 0 {
		return nil
	}
	var x T
	from := uintptr(unsafe.Pointer(unsafe.SliceData(l)))
	return []room{{from, from + uintptr(cap(l))*unsafe.Sizeof(x)}}
}

// rooms are those of spans, and of the list they stand in.
func rooms(l []api.Span) []room {
	all := at(l)
	for _, b := range bytesOf(l) {
		all = append(all, at(b)...)
	}
	return all
}

// apart tells whether no room reaches into another one's.
func apart(all []room) bool {
	slices.SortFunc(all, func(a, b room) int { return int(a.from) - int(b.from) })
	for i := 1; i < len(all); i++ {
		if all[i].from < all[i-1].to {
			return false
		}
	}
	return true
}

// spoil overwrites spans, their bytes, and all spare room.
func spoil(l []api.Span) {
	for _, b := range bytesOf(l) {
		for i := range b[:cap(b)] {
			b[:cap(b)][i] += 101
		}
	}
	for i := range l[:cap(l)] {
		l[:cap(l)][i] = upTo(-7, "spoilt", "spoilt")
	}
}

// spare is a list in memory of its own, with room behind it, in which something stands.
func spare[T any](l []T, more T) []T {
	return append(append(make([]T, 0, len(l)+1), l...), more)[:len(l)]
}

// twin is an ask in memory of its own, each list with spare room.
func twin(a ask) ask {
	own := func(x api.Span) api.Span {
		x.Lo, x.Hi = spare(x.Lo, 'z'), spare(x.Hi, 'z')
		return x
	}
	l := spare(a.L, own(upTo(3, "spare", "sparf")))
	for i, x := range l {
		l[i] = own(x)
	}
	a.L, a.X, a.Y, a.Key = l, own(a.X), own(a.Y), spare(a.Key, 'z')
	return a
}

// handed are the rooms of what is handed in.
func (a ask) handed() []room {
	return slices.Concat(rooms(a.L), rooms([]api.Span{a.X, a.Y})[1:], at(a.Key))
}

// whole is all that is in an ask, the spare room in it.
func (a ask) whole() string {
	return fmt.Sprint(tell(a.L[:cap(a.L)]...), bytesOf(a.L), bytesOf([]api.Span{a.X, a.Y}), a.Key[:cap(a.Key)], a.Table, a.Most, a.X.Table, a.X.Open, a.Y.Table, a.Y.Open) + spareOf(a)
}

// spareOf are the bytes behind those of an ask's spans.
func spareOf(a ask) string {
	var all []byte
	for _, b := range append(bytesOf(a.L), bytesOf([]api.Span{a.X, a.Y})...) {
		all = append(all, b[:cap(b)]...)
	}
	return strconv.Quote(string(all))
}

// R3, R4: nothing is written into what is handed in, or its spare room, by a call, or by who has its answers.
func TestArgumentsStay(t *testing.T) {
	for _, a := range asks() {
		own := twin(a)
		was := own.whole()
		_, lists := own.answers()
		for _, l := range lists {
			spoil(l)
		}
		if own.whole() != was {
			t.Fatalf("%v: what was handed in is changed", a)
		}
	}
}

// R4: what is answered stays, whatever becomes of what was handed in.
func TestAnswersStay(t *testing.T) {
	for _, a := range asks() {
		own := twin(a)
		_, lists := own.answers()
		_, want := a.answers()
		spoil(own.L)
		spoil([]api.Span{own.X, own.Y})
		clear(own.Key[:cap(own.Key)])
		for i, l := range lists {
			if tell(l...) != tell(want[i]...) {
				t.Fatalf("%v: %s for %s", a, tell(l...), tell(want[i]...))
			}
		}
	}
}

// R4: no two lists of one answer share memory, nor do an answer's and an argument's, nor two answers'; also where those of an argument do.
func TestListsApart(t *testing.T) {
	for _, a := range asks() {
		own := twin(a)
		_, first := own.answers()
		_, second := own.answers()
		for i := range first {
			if !apart(slices.Concat(rooms(first[i]), rooms(second[i]), own.handed())) {
				t.Fatalf("%d, %v: memory is shared", i, a)
			}
		}
		// Memory that nobody has any more may be another one's.
		runtime.KeepAlive([]any{own, first, second})
	}
	text := []byte("abcdefghijklmnop")
	x := api.Span{Lo: text[:1], Hi: text[1:3]}
	l := []api.Span{x, {Table: 1, Lo: text[:1], Hi: text[:2]}, x, {Lo: text[2:3], Hi: text[3:]}}
	for _, a := range []ask{{l, x, x, 1, text[:3], 4}, {l[:2], l[3], l[1], 0, text[:0], 4}, {l, l[3], api.Span{Table: 2, Lo: text[:1], Hi: text}, 0, text, 0}, {l[:2:2], api.Span{Lo: text[:1], Open: true}, api.Span{Table: 1, Lo: text, Open: true}, 3, text, 1}} {
		_, lists := a.answers()
		for i, own := range lists {
			if !apart(rooms(own)) {
				t.Errorf("%d, %v: memory is shared", i, a)
			}
			for _, r := range a.handed() {
				if !apart(append(rooms(own), r)) {
					t.Errorf("%d, %v: memory is shared with an argument", i, a)
				}
			}
			spoil(own)
		}
		if string(text) != "abcdefghijklmnop" {
			t.Errorf("%v: %s", a, text)
		}
		runtime.KeepAlive(lists)
	}
}

// R4, R5: spans go on two ways, each as if there were no other one.
func TestTwoWays(t *testing.T) {
	for _, words := range []string{"", "0ab", "0ab 1", "0ab 0cd 0ef", "1ab 0gh 2", "0ab 1ab 2ab 3ab 0cd"} {
		l, _ := span.Add(letters(words), upTo(3, "x", "y"), 9)
		was := tell(l...)
		a, _ := span.Add(l, upTo(0, "m", "n"), 9)
		b, _ := span.Add(l, upTo(0, "o", "p"), 9)
		c, _ := span.Add(l, from(0, "c"), 1)
		if tell(l...) != was || tell(a...) != was+tell(upTo(0, "m", "n")) || tell(b...) != was+tell(upTo(0, "o", "p")) {
			t.Errorf("%s: %s; %s; %s", was, tell(l...), tell(a...), tell(b...))
		}
		if want, _ := added(l, from(0, "c"), 1); tell(c...) != tell(want...) {
			t.Errorf("%s: %s", was, tell(c...))
		}
	}
}

// R5: spare room, what stands in it, whether an empty list is nil, and what was asked ahead, or beside, is nothing to an answer.
func TestNothingElseMatters(t *testing.T) {
	var first []string
	all := asks()
	for _, a := range all {
		words, _ := a.answers()
		first = append(first, words)
	}
	done := make(chan bool)
	for range 3 {
		go func() {
			for i, a := range slices.Backward(all) {
				if words, _ := a.answers(); words != first[i] {
					t.Errorf("%v: %s, ahead of it %s", a, words, first[i])
				}
				if words, _ := twin(a).answers(); words != first[i] {
					t.Errorf("%v, with spare room: %s, ahead of it %s", a, words, first[i])
				}
			}
			done <- true
		}()
	}
	for range 3 {
		<-done
	}
	none := []byte{}
	filled := ask{[]api.Span{{Lo: none, Hi: none}, {Lo: none, Hi: none, Open: true}}, api.Span{Table: 1, Lo: none, Hi: none, Open: true}, api.Span{Lo: none, Hi: none}, 0, none, 4}
	bare := ask{[]api.Span{{}, {Open: true}}, api.Span{Table: 1, Open: true}, api.Span{}, 0, nil, 4}
	x, _ := filled.answers()
	y, _ := bare.answers()
	if x != y {
		t.Errorf("%s, and %s", x, y)
	}
}
