package delta_test

import (
	"fmt"
	"maps"
	"math"
	"reflect"
	"runtime"
	"slices"
	"strconv"
	"strings"
	"testing"

	"banksman/api"
	"banksman/delta"
)

// put and away are writes.
func put(table int, key, value string) api.Write {
	return api.Write{Table: table, Key: []byte(key), Value: []byte(value)}
}
func away(table int, key string) api.Write {
	return api.Write{Table: table, Key: []byte(key), Gone: true}
}

// from and upTo are spans.
func from(table int, lo string) api.Span {
	return api.Span{Table: table, Lo: []byte(lo), Open: true}
}
func upTo(table int, lo, hi string) api.Span {
	return api.Span{Table: table, Lo: []byte(lo), Hi: []byte(hi)}
}

// pairs are keys, each with a value that tells of it.
func pairs(keys ...string) []api.Pair {
	var l []api.Pair
	for _, k := range keys {
		l = append(l, api.Pair{Key: []byte(k), Value: []byte("old " + k)})
	}
	return l
}

// times is so many writes, each of a key of its own.
func times(n int) []api.Write {
	var l []api.Write
	for i := range n {
		l = append(l, put(i%4, "k"+strconv.Itoa(i), "v"+strconv.Itoa(i)))
	}
	return l
}

// tellWrites, tellPairs and tell are what there is to say of writes, of pairs and of a delta.
func tellWrites(l ...api.Write) string {
	var b []byte
	for _, w := range l {
		b = strconv.AppendQuote(append(strconv.AppendInt(b, int64(w.Table), 10), ' '), string(w.Key))
		b = strconv.AppendQuote(strconv.AppendBool(append(b, ' '), w.Gone), string(w.Value))
		b = append(b, ", "...)
	}
	return string(b)
}
func tellPairs(l []api.Pair) string {
	var b []byte
	for _, x := range l {
		b = strconv.AppendQuote(append(strconv.AppendQuote(b, string(x.Key)), ' '), string(x.Value))
		b = append(b, ", "...)
	}
	return string(b)
}
func tell(d api.Delta) string {
	b := []byte(tellWrites(d.Writes...))
	for _, m := range d.Marks {
		b = strconv.AppendInt(append(b, ' '), int64(m), 10)
	}
	return string(b)
}

// plain is a value in words, to which it is nothing whether an empty list is nil.
func plain(x any) string { return fmt.Sprintf("%v", x) }

// named are all of a map, in its names' order.
func named[T any](m map[string]T) func(yield func(string, T) bool) {
	return func(yield func(string, T) bool) {
		for _, k := range slices.Sorted(maps.Keys(m)) {
			if !yield(k, m[k]) {
				return
			}
		}
	}
}

// rightWrites are writes that may be.
func rightWrites() map[string]api.Write {
	return map[string]api.Write{
		"nothing":         {},
		"one":             put(0, "a", "v"),
		"gone":            away(0, "a"),
		"table 3":         put(3, "b", "w"),
		"table 3, gone":   away(3, ""),
		"an empty key":    put(1, "", "v"),
		"an empty value":  put(2, "a", ""),
		"empty, and gone": {Key: []byte("a"), Gone: true, Value: []byte{}},
		"16 and 32 bytes": put(1, strings.Repeat("k", 16), strings.Repeat("v", 32)),
		"16 bytes, gone":  away(2, strings.Repeat("\xff", 16)),
		"any bytes":       put(0, "\x00\xff\x80", "\xff\x00"),
	}
}

// wrongWrites are writes that may not be, each for one reason.
func wrongWrites() map[string]api.Write {
	return map[string]api.Write{
		"table -1":           put(-1, "a", "v"),
		"table 4":            put(4, "a", "v"),
		"table 4, gone":      away(4, "a"),
		"table 2^32":         put(1<<32, "a", "v"),
		"the least table":    put(math.MinInt, "a", "v"),
		"the greatest table": put(math.MaxInt, "a", "v"),
		"17 bytes":           put(0, strings.Repeat("k", 17), "v"),
		"17 bytes, gone":     away(0, strings.Repeat("k", 17)),
		"272 bytes":          put(0, strings.Repeat("k", 272), "v"),
		"33 bytes of value":  put(0, "a", strings.Repeat("v", 33)),
		"288 of value":       put(0, "a", strings.Repeat("v", 288)),
		"gone, with a value": {Key: []byte("a"), Gone: true, Value: []byte("v")},
		"gone, with a 0":     {Table: 2, Key: []byte("a"), Gone: true, Value: []byte{0}},
	}
}

// right are deltas that may be.
func right() map[string]api.Delta {
	long := strings.Repeat("k", 16)
	return map[string]api.Delta{
		"nothing":       {},
		"empty lists":   {Writes: []api.Write{}, Marks: []int{}},
		"one":           {Writes: []api.Write{put(0, "a", "v")}},
		"a mark":        {Marks: []int{0}},
		"marks of none": {Marks: []int{0, 0, 0, 0}},
		"a mark ahead":  {Writes: []api.Write{put(0, "a", "v")}, Marks: []int{0}},
		"a mark behind": {Writes: []api.Write{put(0, "a", "v")}, Marks: []int{1}},
		"marks":         {Writes: []api.Write{put(0, "a", "v"), put(0, "a", "w"), away(1, "a"), put(0, "b", "x")}, Marks: []int{0, 1, 1, 4}},
		"gone":          {Writes: []api.Write{away(0, "a"), put(0, "b", "v"), away(0, "b"), put(0, "c", ""), away(0, "d"), put(0, "d", "again")}, Marks: []int{2, 3}},
		"tables":        {Writes: []api.Write{put(3, "a", "3"), put(2, "b", "2"), put(1, "a", "1"), put(0, "b", "0"), put(2, "a", "2a"), put(0, "b", "0b"), away(3, "a")}, Marks: []int{7}},
		"edges":         {Writes: []api.Write{put(0, "", "e"), put(0, long, strings.Repeat("v", 32)), put(0, "\xff", "f"), put(0, "\x00", "0"), put(0, "a\x00", "a0"), put(0, "a", "a"), put(0, "\x80", "8"), put(0, "\x7f", "7"), put(0, strings.Repeat("\xff", 16), ""), {Gone: true, Value: []byte{}, Table: 3}}, Marks: []int{5, 5, 5, 10}},
		"19":            {Writes: times(19), Marks: []int{1, 2, 3}},
		"20":            {Writes: times(20)},
		"20, marks":     {Writes: times(20), Marks: []int{0, 10, 20, 20}},
		"20 of one":     {Writes: slices.Repeat([]api.Write{put(1, "a", "v")}, 20), Marks: []int{20}},
	}
}

// wrong are deltas that may not be, each for one reason.
func wrong() map[string]api.Delta {
	all := map[string]api.Delta{
		"21 writes":        {Writes: times(21)},
		"21, marks":        {Writes: times(21), Marks: []int{0, 21}},
		"276 writes":       {Writes: times(276)},
		"5 marks":          {Marks: []int{0, 0, 0, 0, 0}},
		"5 marks that may": {Writes: times(5), Marks: []int{0, 1, 2, 3, 4}},
		"260 marks":        {Writes: times(2), Marks: make([]int, 260)},
		"mark 1 of none":   {Marks: []int{1}},
		"mark -1":          {Writes: times(3), Marks: []int{-1}},
		"the least":        {Writes: times(3), Marks: []int{math.MinInt, 1}},
		"the greatest":     {Writes: times(3), Marks: []int{1, math.MaxInt}},
		"mark 21":          {Writes: times(20), Marks: []int{1, 21}},
		"mark 2^32":        {Writes: times(3), Marks: []int{1 << 32}},
		"marks fall":       {Writes: times(3), Marks: []int{2, 1}},
		"the last falls":   {Writes: times(3), Marks: []int{1, 2, 2, 0}},
		"one too far":      {Writes: times(3), Marks: []int{0, 3, 4}},
		"all fall":         {Writes: times(4), Marks: []int{4, 3, 2, 1}},
		"one falls back":   {Writes: times(4), Marks: []int{1, 0, 4}},
	}
	for why, w := range wrongWrites() {
		for _, size := range []int{0, 1, 2, 19} {
			for at := 0; at <= size; at += max(size, 1) {
				all[fmt.Sprintf("%s, at %d of %d", why, at, size)] = api.Delta{Writes: slices.Insert(times(size), at, w), Marks: []int{0, 0, size}}
			}
		}
	}
	return all
}

// last is a delta's last write of a place, by going through all of them; false without one.
func last(d api.Delta, table int, key string) (api.Write, bool) {
	for i := len(d.Writes) - 1; i >= 0; i-- {
		if w := d.Writes[i]; w.Table == table && string(w.Key) == key {
			return w, true
		}
	}
	return api.Write{}, false
}

// keys are all that a delta writes, whatever the table, rising, with others beside them.
func keys(d api.Delta) []string {
	all := []string{"", "\x00", "a", "b", "zz", strings.Repeat("k", 16), strings.Repeat("k", 17), strings.Repeat("\xff", 40)}
	for _, w := range d.Writes {
		all = append(all, string(w.Key), string(w.Key)+"\x00")
	}
	slices.Sort(all)
	return slices.Compact(all)
}

// lasts are the last writes of all places.
func lasts(d api.Delta) []api.Write {
	var l []api.Write
	for table := range 4 {
		for _, k := range keys(d) {
			if w, is := last(d, table, k); is {
				l = append(l, w)
			}
		}
	}
	return l
}

// over is what there is to say of pairs that rise, with a delta's writes of a span done on a plain map.
func over(d api.Delta, x api.Span, l []api.Pair) string {
	m := map[string]string{}
	for _, p := range l {
		m[string(p.Key)] = string(p.Value)
	}
	for _, w := range d.Writes {
		k := string(w.Key)
		if w.Table != x.Table || k < string(x.Lo) || !x.Open && k >= string(x.Hi) {
			continue
		}
		if delete(m, k); !w.Gone {
			m[k] = string(w.Value)
		}
	}
	var all []api.Pair
	for _, k := range slices.Sorted(maps.Keys(m)) {
		all = append(all, api.Pair{Key: []byte(k), Value: []byte(m[k])})
	}
	return tellPairs(all)
}

// numbers are edges, and those about what there is.
var numbers = []int{math.MinInt, math.MinInt32, -2, -1, 0, 1, 2, 3, 4, 5, 19, 20, 21, 256, math.MaxInt32, 1 << 31, 1 << 32, 1<<32 + 1, math.MaxInt - 1, math.MaxInt}

// P8.1
func TestCheck(t *testing.T) {
	for what, d := range named(right()) {
		if !delta.Check(d) {
			t.Errorf("%s is refused", what)
		}
	}
	for what, d := range named(wrong()) {
		if delta.Check(d) {
			t.Errorf("%s", what)
		}
	}
}

// P8.1: all lists of up to five marks, of none to three writes.
func TestCheckOfMarks(t *testing.T) {
	for size := range 4 {
		lists := [][]int{nil}
		for len(lists) > 0 {
			l := lists[0]
			lists = lists[1:]
			want := len(l) <= 4
			for i, m := range l {
				want = want && 0 <= m && m <= size && (i == 0 || l[i-1] <= m)
			}
			if is := delta.Check(api.Delta{Writes: times(size), Marks: l}); is != want {
				t.Fatalf("%v of %d: %v", l, size, is)
			}
			for m := -1; len(l) < 5 && m < 5; m++ {
				lists = append(lists, append(slices.Clone(l), m))
			}
		}
	}
}

// P8.1: each number of writes, and of marks.
func TestCheckOfMany(t *testing.T) {
	for writes := range 60 {
		for marks := range 12 {
			for _, m := range []int{0, writes} {
				d := api.Delta{Writes: times(writes), Marks: slices.Repeat([]int{m}, marks)}
				if is := delta.Check(d); is != (writes <= 20 && marks <= 4) {
					t.Errorf("%d, and %d: %v", writes, marks, is)
				}
			}
		}
	}
}

// P8.1 to P8.3: the chapter's example.
func TestExample(t *testing.T) {
	d, e := delta.Put(api.Delta{}, put(0, "a", "v"))
	d, f := delta.Mark(d)
	d, g := delta.Put(d, put(0, "a", "w"))
	d, h := delta.Put(d, put(0, "b", "x"))
	if l := tellWrites(delta.Last(d)...); l != tellWrites(put(0, "a", "w"), put(0, "b", "x")) {
		t.Error(l)
	}
	d, i := delta.Back(d, 0)
	if e != api.OK || f != api.OK || g != api.OK || h != api.OK || i != api.OK {
		t.Errorf("%v, %v, %v, %v, %v", e, f, g, h, i)
	}
	if l := tellWrites(delta.Last(d)...); l != tellWrites(put(0, "a", "v")) {
		t.Error(l)
	}
}

// P8.1: one more behind, with the marks as they were; none if there are 20.
func TestPut(t *testing.T) {
	for what, d := range named(right()) {
		was := tell(d)
		for why, w := range named(rightWrites()) {
			want, f := tell(api.Delta{Writes: append(slices.Clone(d.Writes), w), Marks: d.Marks}), api.OK
			if len(d.Writes) == 20 {
				want, f = was, api.ErrMarks
			}
			if got, e := delta.Put(d, w); e != f || tell(got) != want || delta.Check(got) != true {
				t.Errorf("%s, %s: %v, %s for %s", what, why, e, tell(got), want)
			}
		}
		// One that may not be is told of ahead of one too many.
		for why, w := range named(wrongWrites()) {
			if got, e := delta.Put(d, w); e != api.ErrArg || tell(got) != was {
				t.Errorf("%s, %s: %v, %s", what, why, e, tell(got))
			}
		}
	}
}

// P8.1: each limit of a write, to the last one.
func TestPutLimits(t *testing.T) {
	d := right()["marks"]
	for _, table := range numbers {
		for _, key := range []int{0, 1, 15, 16, 17, 18, 32, 255, 256, 1 << 16} {
			for _, value := range []int{0, 1, 16, 31, 32, 33, 34, 64, 255, 256, 288, 1 << 16} {
				for _, gone := range []bool{false, true} {
					w := api.Write{Table: table, Key: make([]byte, key), Gone: gone, Value: make([]byte, value)}
					want := 0 <= table && table <= 3 && key <= 16 && value <= 32 && (!gone || value == 0)
					got, e := delta.Put(d, w)
					if want && (e != api.OK || tell(got) != tell(api.Delta{Writes: append(slices.Clone(d.Writes), w), Marks: d.Marks})) {
						t.Errorf("%d, %d, %d, %v: %v", table, key, value, gone, e)
					}
					if !want && (e != api.ErrArg || tell(got) != tell(d)) {
						t.Errorf("%d, %d, %d, %v: %v", table, key, value, gone, e)
					}
					if delta.Check(api.Delta{Writes: []api.Write{w}}) != want {
						t.Errorf("%d, %d, %d, %v", table, key, value, gone)
					}
				}
			}
		}
	}
}

// P8.1: there is room for 20 writes, one key's, or keys', be they gone or not.
func TestTwenty(t *testing.T) {
	for _, l := range [][]api.Write{times(30), slices.Repeat([]api.Write{put(0, "a", "v")}, 30), slices.Repeat([]api.Write{put(3, "a", "v"), away(3, "a"), put(2, "", "")}, 10)} {
		d := api.Delta{Marks: []int{0}}
		for i, w := range l {
			more, e := delta.Put(d, w)
			want, f := l[:i+1], api.OK
			if i >= 20 {
				want, f = l[:20], api.ErrMarks
			}
			if e != f || tell(more) != tell(api.Delta{Writes: want, Marks: []int{0}}) {
				t.Fatalf("%d: %v, %s", i, e, tell(more))
			}
			d = more
		}
	}
}

// P8.1: one mark more, of all writes; none if there are four.
func TestMark(t *testing.T) {
	for what, d := range named(right()) {
		for range 6 {
			want, f := tell(api.Delta{Writes: d.Writes, Marks: append(slices.Clone(d.Marks), len(d.Writes))}), api.OK
			if len(d.Marks) == 4 {
				want, f = tell(d), api.ErrMarks
			}
			got, e := delta.Mark(d)
			if e != f || tell(got) != want || !delta.Check(got) {
				t.Errorf("%s: %v, %s for %s", what, e, tell(got), want)
			}
			d = got
		}
	}
}

// P8.1: that mark is the last one then; without it nothing changes.
func TestBack(t *testing.T) {
	for what, d := range named(right()) {
		for _, n := range numbers {
			want, f := tell(d), api.ErrArg
			if n >= 0 && n < len(d.Marks) {
				want, f = tell(api.Delta{Writes: d.Writes[:d.Marks[n]], Marks: d.Marks[:n+1]}), api.OK
			}
			got, e := delta.Back(d, n)
			if e != f || tell(got) != want || !delta.Check(got) {
				t.Errorf("%s, %d: %v, %s for %s", what, n, e, tell(got), want)
			}
			if e != api.OK {
				continue
			}
			// Once more there is nothing to do, and ahead of it the other marks are still there.
			if again, e := delta.Back(got, n); e != api.OK || tell(again) != want {
				t.Errorf("%s, %d again: %v, %s", what, n, e, tell(again))
			}
			if _, e := delta.Back(got, n+1); e != api.ErrArg {
				t.Errorf("%s, behind %d: %v", what, n, e)
			}
			for i := range n {
				a, e := delta.Back(got, i)
				b, f := delta.Back(d, i)
				if e != api.OK || f != api.OK || tell(a) != tell(b) {
					t.Errorf("%s, %d behind %d: %v, %v, %s for %s", what, i, n, e, f, tell(a), tell(b))
				}
			}
		}
	}
}

// P8.1 to P8.3: of a delta that may not be Put, Mark and Back tell ErrArg, and it; Find and Last nothing; Over the pairs.
func TestWrongDelta(t *testing.T) {
	for what, d := range named(wrong()) {
		was := tell(d)
		for why, w := range named(rightWrites()) {
			if got, e := delta.Put(d, w); e != api.ErrArg || tell(got) != was {
				t.Errorf("%s: Put of %s: %v, %s", what, why, e, tell(got))
			}
		}
		for why, w := range named(wrongWrites()) {
			if got, e := delta.Put(d, w); e != api.ErrArg || tell(got) != was {
				t.Errorf("%s: Put of %s: %v, %s", what, why, e, tell(got))
			}
		}
		if got, e := delta.Mark(d); e != api.ErrArg || tell(got) != was {
			t.Errorf("%s: Mark: %v, %s", what, e, tell(got))
		}
		for _, n := range numbers {
			if got, e := delta.Back(d, n); e != api.ErrArg || tell(got) != was {
				t.Errorf("%s: Back %d: %v, %s", what, n, e, tell(got))
			}
		}
		for _, w := range d.Writes {
			if got, is := delta.Find(d, w.Table, w.Key); is || tellWrites(got) != tellWrites(api.Write{}) {
				t.Errorf("%s: Find: %v, %s", what, is, tellWrites(got))
			}
		}
		if l := delta.Last(d); len(l) > 0 {
			t.Errorf("%s: Last: %s", what, tellWrites(l...))
		}
		for _, table := range []int{-1, 0, 1, 2, 3, 4} {
			for _, l := range [][]api.Pair{nil, pairs("a", "b", "k0", "z"), pairs("b", "a")} {
				if got := tellPairs(delta.Over(d, from(table, ""), l)); got != tellPairs(l) {
					t.Errorf("%s: Over of table %d: %s", what, table, got)
				}
			}
		}
	}
}

// lookedFor fails unless Find and Last tell of a delta what going through its writes does.
func lookedFor(t *testing.T, d api.Delta, what string) {
	t.Helper()
	for _, table := range []int{math.MinInt, -1, 0, 1, 2, 3, 4, 1 << 32, math.MaxInt} {
		for _, k := range keys(d) {
			want, there := last(d, table, k)
			if w, is := delta.Find(d, table, []byte(k)); is != there || tellWrites(w) != tellWrites(want) {
				t.Fatalf("%s: %q of %d: %v, %s for %s", what, k, table, is, tellWrites(w), tellWrites(want))
			}
		}
	}
	if got, want := tellWrites(delta.Last(d)...), tellWrites(lasts(d)...); got != want {
		t.Fatalf("%s: %s for %s", what, got, want)
	}
}

// P8.2
func TestFindAndLast(t *testing.T) {
	for what, d := range named(right()) {
		lookedFor(t, d, what)
	}
}

// P8.2: all lists of up to four of some writes, in all orders.
func TestFindAndLastOfFew(t *testing.T) {
	some := []api.Write{put(0, "a", "v"), put(0, "a", "w"), away(0, "a"), put(1, "a", "x"), put(0, "ab", ""), away(3, "")}
	lists := [][]api.Write{nil}
	for len(lists) > 0 {
		l := lists[0]
		lists = lists[1:]
		lookedFor(t, api.Delta{Writes: l}, tellWrites(l...))
		for i := 0; len(l) < 4 && i < len(some); i++ {
			lists = append(lists, append(slices.Clone(l), some[i]))
		}
	}
}

// P8.2: twenty writes of few keys and of many, in many orders; keys stand by their bytes, behind tables.
func TestFindAndLastOfMany(t *testing.T) {
	all := []string{"", "\x00", "\x00\x00", "0", "A", "a", "a\x00", "aa", "ab", "b", "\x7f", "\x80", "\xc3\xa4", "\xff", "\xff\xff", strings.Repeat("a", 16), strings.Repeat("\xff", 16)}
	for step := 1; step < 60; step++ {
		for few := 1; few <= len(all); few += 4 {
			var l []api.Write
			for i := range 20 {
				w := put(i*step*step/3%4, all[i*step%few], strconv.Itoa(i))
				if i*step%5 == 1 {
					w = away(w.Table, string(w.Key))
				}
				l = append(l, w)
			}
			lookedFor(t, api.Delta{Writes: l, Marks: []int{step % 21}}, fmt.Sprintf("%d of %d", step, few))
		}
	}
}

// P8.2: of a key that is none nothing is found, and nothing is told beside that.
func TestFindNothing(t *testing.T) {
	d := api.Delta{Writes: []api.Write{put(1, "a", "v"), away(1, "b")}}
	for _, k := range []string{"", "\x00", "A", "a\x00", "aa", "b\x00", "c", strings.Repeat("a", 16), strings.Repeat("a", 17), strings.Repeat("a", 1<<16)} {
		if w, is := delta.Find(d, 1, []byte(k)); is || w.Table != 0 || len(w.Key) > 0 || w.Gone || len(w.Value) > 0 {
			t.Errorf("%q: %v, %s", k, is, tellWrites(w))
		}
	}
	for _, table := range numbers {
		if w, is := delta.Find(d, table, []byte("a")); is != (table == 1) || !is && tellWrites(w) != tellWrites(api.Write{}) {
			t.Errorf("%d: %v, %s", table, is, tellWrites(w))
		}
	}
	if w, is := delta.Find(api.Delta{}, 0, nil); is || tellWrites(w) != tellWrites(api.Write{}) {
		t.Errorf("%v, %s", is, tellWrites(w))
	}
	if w, is := delta.Find(api.Delta{Writes: []api.Write{{}}}, 0, nil); !is || tellWrites(w) != tellWrites(api.Write{}) {
		t.Errorf("%v, %s", is, tellWrites(w))
	}
}

// spans are those of a table that begin and end at, and beside, a delta's keys.
func spans(d api.Delta, table int) []api.Span {
	var all []api.Span
	l := keys(d)
	if len(l) > 14 {
		l = l[:14]
	}
	for _, lo := range l {
		all = append(all, from(table, lo))
		for _, hi := range l {
			all = append(all, upTo(table, lo, hi), api.Span{Table: table, Lo: []byte(lo), Hi: []byte(hi), Open: true})
		}
	}
	return all
}

// P8.3
func TestOver(t *testing.T) {
	lists := [][]api.Pair{nil, {}, pairs(""), pairs("a"), pairs("b"), pairs("zz"), pairs("", "\x00", "a", "b", "c", "d", "k1", "k10", "k3"), pairs("0", "aa", "cc", "e", "\x7f", "\xff")}
	for what, d := range named(right()) {
		var written []string
		for i, k := range keys(d) {
			if i%3 > 0 {
				written = append(written, k)
			}
		}
		for _, table := range []int{-1, 0, 1, 2, 3, 4, math.MaxInt} {
			for _, x := range spans(d, table) {
				for _, l := range append(lists, pairs(written...), pairs(keys(d)...)) {
					if got, want := tellPairs(delta.Over(d, x, l)), over(d, x, l); got != want {
						t.Fatalf("%s, %v over %s: %s for %s", what, x, tellPairs(l), got, want)
					}
				}
			}
		}
	}
}

// P8.3: a span begins at Lo, and ends ahead of Hi; it has no end if it is Open, whatever Hi is; pairs that are not in it stay.
func TestOverOfSpans(t *testing.T) {
	d := api.Delta{Writes: []api.Write{put(1, "a", "A"), away(1, "b"), put(1, "c", "C"), away(1, "cc"), put(1, "d", "D"), put(2, "b", "other")}}
	l := []api.Pair{{Key: []byte("b"), Value: []byte("b")}, {Key: []byte("c"), Value: []byte("c")}, {Key: []byte("e"), Value: []byte("e")}}
	for i, c := range []struct {
		x    api.Span
		want string
	}{
		{from(1, ""), "ACDe"},
		{api.Span{Table: 1, Open: true}, "ACDe"},
		{api.Span{Table: 1}, "bce"},
		{from(1, "a"), "ACDe"},
		{from(1, "a\x00"), "CDe"},
		{from(1, "b"), "CDe"},
		{from(1, "b\x00"), "bCDe"},
		{from(1, "c\x00"), "bcDe"},
		{from(1, "d\x00"), "bce"},
		{upTo(1, "", "a"), "bce"},
		{upTo(1, "", "a\x00"), "Abce"},
		{upTo(1, "", "b"), "Abce"},
		{upTo(1, "", "b\x00"), "Ace"},
		{upTo(1, "", "d"), "ACe"},
		{upTo(1, "", strings.Repeat("z", 99)), "ACDe"},
		{upTo(1, "b", "c"), "ce"},
		{upTo(1, "c", "cc"), "bCe"},
		{upTo(1, "c", "c"), "bce"},
		{upTo(1, "d", "a"), "bce"},
		{api.Span{Table: 1, Lo: []byte("c"), Hi: []byte("a"), Open: true}, "bCDe"},
		{api.Span{Table: 1, Lo: []byte("b"), Hi: []byte("c"), Open: true}, "CDe"},
		{from(2, ""), "other c e"},
		{from(0, ""), "bce"},
		{from(3, ""), "bce"},
		{from(-1, ""), "bce"},
		{from(5, ""), "bce"},
	} {
		got := ""
		for _, p := range delta.Over(d, c.x, l) {
			got += string(p.Value)
		}
		if got != strings.ReplaceAll(c.want, " ", "") {
			t.Errorf("%d: %q", i, got)
		}
	}
}

// P8.3: the last write of a key is done, no other one; a place that is gone, and was none, is none.
func TestOverOfLast(t *testing.T) {
	for i, c := range []struct {
		writes []api.Write
		want   string
	}{
		{[]api.Write{put(0, "b", "1"), put(0, "b", "2")}, `"a" "old a", "b" "2", "c" "old c", `},
		{[]api.Write{put(0, "a", "1"), away(0, "a")}, `"c" "old c", `},
		{[]api.Write{away(0, "a"), put(0, "a", "2")}, `"a" "2", "c" "old c", `},
		{[]api.Write{away(0, "a"), put(1, "a", "2")}, `"c" "old c", `},
		{[]api.Write{put(0, "b", "1"), away(0, "b")}, `"a" "old a", "c" "old c", `},
		{[]api.Write{away(0, "b")}, `"a" "old a", "c" "old c", `},
		{[]api.Write{away(0, "c"), away(0, "a")}, ``},
		{[]api.Write{put(0, "c", "")}, `"a" "old a", "c" "", `},
		{[]api.Write{put(0, "d", "1"), put(0, "", "2")}, `"" "2", "a" "old a", "c" "old c", "d" "1", `},
		{[]api.Write{away(0, "c"), put(0, "d", "1"), away(0, "d"), put(0, "b", "2")}, `"a" "old a", "b" "2", `},
	} {
		if got := tellPairs(delta.Over(api.Delta{Writes: c.writes}, from(0, ""), pairs("a", "c"))); got != c.want {
			t.Errorf("%d: %s", i, got)
		}
	}
}

// P8.3: pairs whose keys do not rise stay as they are, wherever it is that they do not.
func TestOverOfWhatDoesNotRise(t *testing.T) {
	d := api.Delta{Writes: []api.Write{put(0, "a", "new"), away(0, "b"), put(0, "bb", "new"), put(0, "z", "new")}}
	lists := [][]api.Pair{pairs("b", "a"), pairs("a", "a"), pairs("", ""), pairs("a", "b", "c", "c"), pairs("a", "b", "c", "b"), pairs("b", "a", "c"), pairs("a", "c", "b", "d"), pairs("a", "b", "c", ""), pairs("\xff", "\x7f"), pairs("aa", "a"), pairs("a\x00", "a")}
	for _, l := range lists {
		for _, x := range []api.Span{from(0, ""), upTo(0, "a", "c"), from(1, ""), {}} {
			if got := tellPairs(delta.Over(d, x, l)); got != tellPairs(l) {
				t.Errorf("%v over %s: %s", x, tellPairs(l), got)
			}
		}
	}
	// One that rises is no such list, however short.
	for _, l := range [][]api.Pair{nil, pairs("a"), pairs("b"), pairs("a", "b"), pairs("a", "a\x00"), pairs("\x7f", "\x80")} {
		if got, want := tellPairs(delta.Over(d, from(0, ""), l)), over(d, from(0, ""), l); got != want {
			t.Errorf("over %s: %s for %s", tellPairs(l), got, want)
		}
	}
}

// P8.3: pairs are of any length.
func TestOverOfAny(t *testing.T) {
	long := strings.Repeat("b", 1000)
	l := []api.Pair{{Key: []byte("a"), Value: []byte(long)}, {Key: []byte(long), Value: []byte(long + long)}, {Key: []byte("c"), Value: nil}}
	d := api.Delta{Writes: []api.Write{put(0, "b", "new"), put(0, "bc", "new"), away(0, "c")}}
	want := []api.Pair{l[0], {Key: []byte("b"), Value: []byte("new")}, l[1], {Key: []byte("bc"), Value: []byte("new")}}
	if got := tellPairs(delta.Over(d, from(0, ""), l)); got != tellPairs(want) {
		t.Error(got)
	}
}

// P8.4: back to a mark, a delta is as it was when that was set, whatever came behind.
func TestBackAsItWas(t *testing.T) {
	state := uint32(11)
	next := func(n int) int {
		state = state*1664525 + 1013904223
		return int(state>>8) % n
	}
	names := []string{"", "a", "aa", "b", "\xff", strings.Repeat("k", 16)}
	for range 300 {
		var d api.Delta
		var was []api.Delta
		for range 60 {
			got, e := d, api.OK
			switch n := next(8); n {
			case 0:
				got, e = delta.Mark(d)
				if e == api.OK {
					was = append(was, got)
				}
				if (e == api.OK) != (len(d.Marks) < 4) {
					t.Fatalf("%s: Mark: %v", tell(d), e)
				}
			case 1:
				at := next(6) - 1
				got, e = delta.Back(d, at)
				if (e == api.OK) != (at >= 0 && at < len(was)) {
					t.Fatalf("%s: Back %d: %v", tell(d), at, e)
				}
				if e == api.OK {
					if was = was[:at+1]; tell(got) != tell(was[at]) || tellWrites(delta.Last(got)...) != tellWrites(delta.Last(was[at])...) {
						t.Fatalf("%s: Back %d: %s for %s", tell(d), at, tell(got), tell(was[at]))
					}
				}
			default:
				w := put(next(4), names[next(len(names))], strconv.Itoa(next(99)))
				if n == 2 {
					w = away(w.Table, string(w.Key))
				}
				got, e = delta.Put(d, w)
				if (e == api.OK) != (len(d.Writes) < 20) {
					t.Fatalf("%s: Put: %v", tell(d), e)
				}
			}
			if e != api.OK && tell(got) != tell(d) || !delta.Check(got) || len(got.Marks) != len(was) {
				t.Fatalf("%s: %v, %s", tell(d), e, tell(got))
			}
			d = got
		}
		lookedFor(t, d, tell(d))
	}
}

// P8.4: what is seen of a span is, too, as it was.
func TestSpanAsItWas(t *testing.T) {
	for what, d := range named(right()) {
		if len(d.Marks) == 4 || len(d.Writes) > 17 {
			continue
		}
		marked, e := delta.Mark(d)
		more := marked
		for _, w := range []api.Write{away(0, "a"), put(0, "b", "new"), put(2, "a", "new")} {
			more, _ = delta.Put(more, w)
		}
		more, _ = delta.Mark(more)
		back, f := delta.Back(more, len(d.Marks))
		if e != api.OK || f != api.OK || tell(back) != tell(marked) || tell(more) == tell(marked) {
			t.Fatalf("%s: %v, %v: %s for %s", what, e, f, tell(back), tell(marked))
		}
		for table := range 4 {
			for _, x := range []api.Span{from(table, ""), upTo(table, "a", "c")} {
				a, b := delta.Over(d, x, pairs("a", "b", "c")), delta.Over(back, x, pairs("a", "b", "c"))
				if tellPairs(a) != tellPairs(b) {
					t.Errorf("%s: %v: %s for %s", what, x, tellPairs(b), tellPairs(a))
				}
			}
		}
	}
}

// R1: all calls end on long lists, and long keys and values.
func TestLong(t *testing.T) {
	long := string(make([]byte, 1<<20))
	for i, d := range []api.Delta{
		{Writes: times(1 << 15)},
		{Marks: make([]int, 1<<20)},
		{Writes: []api.Write{put(0, long, "v")}},
		{Writes: []api.Write{put(0, "a", long)}, Marks: []int{math.MinInt}},
		{Writes: []api.Write{put(math.MinInt, long, long)}, Marks: []int{math.MaxInt}},
	} {
		a, e := delta.Put(d, put(4, long, long))
		b, f := delta.Mark(d)
		c, g := delta.Back(d, 0)
		for _, got := range []api.Delta{a, b, c} {
			if len(got.Writes) != len(d.Writes) || len(got.Marks) != len(d.Marks) {
				t.Errorf("%d: %d, %d", i, len(got.Writes), len(got.Marks))
			}
		}
		if _, is := delta.Find(d, 0, []byte(long)); is || e != api.ErrArg || f != api.ErrArg || g != api.ErrArg {
			t.Errorf("%d: %v, %v, %v, %v", i, is, e, f, g)
		}
	}
	var l []api.Pair
	for i := range 1 << 16 {
		l = append(l, api.Pair{Key: []byte{byte(i >> 8), byte(i)}})
	}
	d := api.Delta{Writes: []api.Write{put(0, "\x00\x00", "first"), away(0, "ab"), put(0, "abc", "more"), put(0, "\xff\xff", "last")}}
	got := delta.Over(d, from(0, ""), l)
	if len(got) != 1<<16 || string(got[0].Value) != "first" || string(got[1<<16-1].Value) != "last" || string(got['a'*256+'b'].Key) != "abc" {
		t.Error(len(got))
	}
}

// ask is what to call with: a span (its Lo is the key that is looked for), a write and pairs.
type ask struct {
	D api.Delta
	W api.Write
	N int
	X api.Span
	L []api.Pair
}

// answers are what all calls tell.
func (a ask) answers() map[string]any {
	type changed struct {
		D   api.Delta
		Err api.Errno
	}
	type find struct {
		W  api.Write
		Is bool
	}
	d, e := delta.Put(a.D, a.W)
	m, f := delta.Mark(a.D)
	b, g := delta.Back(a.D, a.N)
	w, is := delta.Find(a.D, a.X.Table, a.X.Lo)
	return map[string]any{
		"Check": delta.Check(a.D),
		"Put":   changed{d, e},
		"Mark":  changed{m, f},
		"Back":  changed{b, g},
		"Find":  find{w, is},
		"Last":  delta.Last(a.D),
		"Over":  delta.Over(a.D, a.X, a.L),
	}
}

// asks are deltas, that may be, and that may not, with writes, numbers, spans and pairs.
func asks() []ask {
	var deltas []api.Delta
	for _, d := range named(right()) {
		deltas = append(deltas, d)
	}
	for what, d := range named(wrong()) {
		if !strings.Contains(what, " of 19") && len(d.Writes) < 30 {
			deltas = append(deltas, d)
		}
	}
	writes := []api.Write{{}, put(0, "a", "new"), away(2, "b"), put(4, "a", "v"), put(1, strings.Repeat("k", 17), "v")}
	var all []ask
	for i, d := range deltas {
		for j, x := range []api.Span{from(0, ""), from(0, "a"), upTo(0, "a", "c"), upTo(1, "a", "b"), {Table: 3, Open: true}, from(4, "a"), upTo(0, "b", "d")} {
			for k, l := range [][]api.Pair{nil, pairs("a"), pairs("", "a", "b", "c", "k0"), pairs("b", "a"), pairs("aa", "zz")} {
				all = append(all, ask{d, writes[(i+j+k)%len(writes)], (i+j+k)%6 - 1, x, l})
			}
		}
	}
	return all
}

// lists hands over all lists in a value, and in their spare room.
func lists(v reflect.Value, do func(l reflect.Value)) {
	switch v.Kind() {
	case reflect.Interface:
		lists(v.Elem(), do)
	case reflect.Struct:
		for i := range v.NumField() {
			lists(v.Field(i), do)
		}
	case reflect.Slice:
		if v.Cap() > 0 {
			l := v.Slice3(0, v.Cap(), v.Cap())
			do(l)
			for i := range l.Len() {
				lists(l.Index(i), do)
			}
		}
	}
}

// room is the memory of a list, its spare room in it; rooms are those of all lists in a value.
type room struct{ from, to uintptr }

func rooms(x any) []room {
	var all []room
	lists(reflect.ValueOf(x), func(l reflect.Value) {
		all = append(all, room{l.Pointer(), l.Pointer() + uintptr(l.Len())*l.Type().Elem().Size()})
	})
	return all
}

// apart tells whether no room reaches into another one's.
func apart(all ...[]room) bool {
	one := slices.Concat(all...)
	slices.SortFunc(one, func(a, b room) int { return int(a.from) - int(b.from) })
	for i := 1; i < len(one); i++ {
		if one[i].from < one[i-1].to {
			return false
		}
	}
	return true
}

// whole is all that is in a value, the lists' spare room in it.
func whole(x any) string {
	var b strings.Builder
	fmt.Fprintf(&b, "%v\n", x)
	lists(reflect.ValueOf(x), func(l reflect.Value) { fmt.Fprintf(&b, "%v\n", l) })
	return b.String()
}

// spoil overwrites all lists in a value, and their spare room, with other elements.
func spoil(x any) {
	var all []reflect.Value
	lists(reflect.ValueOf(x), func(l reflect.Value) { all = append(all, l) })
	for _, l := range all {
		for i := range l.Len() {
			if b, is := l.Index(i).Addr().Interface().(*byte); is {
				*b += 101
				continue
			}
			l.Index(i).Set(spoilt(l.Type().Elem()))
		}
	}
}

// spoilt is an element that stands in none of the test's lists.
func spoilt(t reflect.Type) reflect.Value {
	for _, x := range []any{byte('z'), 77, put(-7, "spoilt", ""), api.Pair{Key: []byte("spoilt")}} {
		if reflect.TypeOf(x) == t {
			return reflect.ValueOf(x)
		}
	}
	panic("spoilt: " + t.String())
}

// twin is what there is to call with, in memory of its own; with spare room, in which something stands, in each list.
func twin(a ask, spare bool) ask {
	v := reflect.New(reflect.TypeOf(a)).Elem()
	v.Set(reflect.ValueOf(a))
	remake(v, spare)
	return v.Interface().(ask)
}
func remake(v reflect.Value, spare bool) {
	switch v.Kind() {
	case reflect.Struct:
		for i := range v.NumField() {
			remake(v.Field(i), spare)
		}
	case reflect.Slice:
		size, more := v.Len(), 0
		if spare {
			more = 2
		}
		own := reflect.MakeSlice(v.Type(), size, size+more)
		reflect.Copy(own, v)
		for i := range size {
			remake(own.Index(i), spare)
		}
		for i := range more {
			x := own.Slice(0, size+more).Index(size + i)
			x.Set(spoilt(x.Type()))
			remake(x, false)
		}
		v.Set(own)
	}
}

// R3, R4: nothing is written into what is handed in, or its spare room, by a call, or by who has its answers.
func TestArgumentsStay(t *testing.T) {
	for _, a := range asks() {
		own := twin(a, true)
		was := whole(own)
		for _, x := range own.answers() {
			spoil(x)
		}
		if whole(own) != was {
			t.Fatalf("%v: what was handed in is changed", a)
		}
	}
}

// R4: what is answered stays, whatever becomes of what was handed in.
func TestAnswersStay(t *testing.T) {
	for _, a := range asks() {
		own := twin(a, true)
		got := own.answers()
		spoil(own)
		for call, want := range a.answers() {
			if plain(got[call]) != plain(want) {
				t.Fatalf("%s, %v: %v for %v", call, a, got[call], want)
			}
		}
	}
}

// R4: no two lists of one answer share memory, nor do an answer's and an argument's, nor two answers'.
func TestListsApart(t *testing.T) {
	for _, a := range asks() {
		own := twin(a, true)
		handed := rooms(own)
		first, second := own.answers(), own.answers()
		for call, x := range first {
			if !apart(rooms(x), handed, rooms(second[call])) {
				t.Fatalf("%s, %v: memory is shared", call, a)
			}
		}
		// Memory that nobody has any more may be another one's.
		runtime.KeepAlive(own)
	}
}

// R4: nor do they when it was shared in what was handed in.
func TestSharedArguments(t *testing.T) {
	text := []byte("abcdefghijklmno")
	w := api.Write{Key: text[:1], Value: text[:9]}
	writes := []api.Write{w, {Table: 1, Key: text[:1], Value: text[:1]}, w, {Table: 2, Key: text, Value: text}, {Table: 3, Key: text[3:]}, {Table: 4, Key: text}}
	marks := []int{1, 2, 2, 3}
	list := []api.Pair{{Key: text[:1], Value: text}, {Key: text[:3], Value: text[:2]}, {Key: text[1:], Value: text[1:]}, {Key: text}}
	for size := range len(writes) + 1 {
		for _, l := range [][]api.Pair{list, list[:3], nil} {
			for n := range 4 {
				a := ask{api.Delta{Writes: writes[:size], Marks: marks[:min(n+1, size/2)]}, writes[size%4], n, api.Span{Table: n, Lo: text[:1], Hi: text[2:], Open: n == 0}, l}
				was := whole(a) + whole(text)
				handed := rooms(a)
				for call, x := range a.answers() {
					got := rooms(x)
					if !apart(got) {
						t.Fatalf("%s, %v: memory is shared", call, a)
					}
					for _, r := range handed {
						if !apart(got, []room{r}) {
							t.Fatalf("%s, %v: memory is shared with an argument", call, a)
						}
					}
					spoil(x)
					if whole(a)+whole(text) != was {
						t.Fatalf("%s, %v: what was handed in is changed", call, a)
					}
				}
				runtime.KeepAlive(a)
			}
		}
	}
}

// R4, R5: a delta goes on two ways, each as if there were no other one.
func TestTwoWays(t *testing.T) {
	for what, d := range named(right()) {
		if len(d.Writes) == 20 || len(d.Marks) == 4 {
			continue
		}
		was := tell(d)
		a, e := delta.Put(d, put(0, "a", "one"))
		b, f := delta.Put(d, away(3, "b"))
		m, g := delta.Mark(a)
		n, h := delta.Mark(b)
		wantA := api.Delta{Writes: append(slices.Clone(d.Writes), put(0, "a", "one")), Marks: append(slices.Clone(d.Marks), len(d.Writes)+1)}
		wantB := api.Delta{Writes: append(slices.Clone(d.Writes), away(3, "b")), Marks: wantA.Marks}
		if e != api.OK || f != api.OK || g != api.OK || h != api.OK || tell(m) != tell(wantA) || tell(n) != tell(wantB) || tell(d) != was {
			t.Errorf("%s: %v, %v, %v, %v: %s, %s", what, e, f, g, h, tell(m), tell(n))
		}
	}
}

// R5: spare room, what stands in it, and whether an empty list is nil, is nothing to an answer; nor is what was asked ahead.
func TestNothingElseMatters(t *testing.T) {
	var first []map[string]any
	all := asks()
	for _, a := range all {
		first = append(first, a.answers())
	}
	for i, a := range slices.Backward(all) {
		for _, spare := range []bool{false, true} {
			for call, x := range twin(a, spare).answers() {
				if plain(x) != plain(first[i][call]) {
					t.Fatalf("%s, %v: %v, ahead of it %v", call, a, x, first[i][call])
				}
			}
		}
	}
	filled := ask{api.Delta{Writes: []api.Write{{Key: []byte{}, Value: []byte{}}, {Table: 1, Key: []byte{}, Gone: true, Value: []byte{}}}, Marks: []int{}}, api.Write{Key: []byte{}, Value: []byte{}}, 0, api.Span{Lo: []byte{}, Hi: []byte{}, Open: true}, []api.Pair{{Key: []byte{}, Value: []byte{}}}}
	bare := ask{D: api.Delta{Writes: []api.Write{{}, {Table: 1, Gone: true}}}, X: api.Span{Open: true}, L: []api.Pair{{}}}
	for call, x := range filled.answers() {
		if y := bare.answers()[call]; plain(x) != plain(y) {
			t.Errorf("%s: %v, %v", call, x, y)
		}
	}
}
