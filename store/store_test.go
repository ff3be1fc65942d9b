package store_test

import (
	"fmt"
	"maps"
	"math"
	"reflect"
	"runtime"
	"slices"
	"strconv"
	"strings"
	"testing"

	"banksman/api"
	"banksman/store"
	"banksman/tree"
)

// has and gone are versions.
func has(stamp int, value string) api.Version {
	return api.Version{Stamp: stamp, Value: []byte(value)}
}
func gone(stamp int) api.Version { return api.Version{Stamp: stamp, Gone: true} }

// put and away are writes.
func put(table int, key, value string) api.Write {
	return api.Write{Table: table, Key: []byte(key), Value: []byte(value)}
}
func away(table int, key string) api.Write {
	return api.Write{Table: table, Key: []byte(key), Gone: true}
}

// from and upTo are spans.
func from(table int, lo string) api.Span {
	return api.Span{Table: table, Lo: []byte(lo), Open: true}
}
func upTo(table int, lo, hi string) api.Span {
	return api.Span{Table: table, Lo: []byte(lo), Hi: []byte(hi)}
}

// plan is what a store has, as plain maps: each key's versions.
type plan [4]map[string][]api.Version

// rows are plain maps of keys of table 0.
func rows(m map[string][]api.Version) plan { return plan{m, {}, {}, {}} }

// keys are a table's keys, rising.
func (p plan) keys(table int) []string { return slices.Sorted(maps.Keys(p[table])) }

// clone is a plan that goes on by itself.
func (p plan) clone() plan {
	for i, m := range p {
		p[i] = maps.Clone(m)
	}
	return p
}

// store makes a store of a plan: its keys come in rising order, or in falling order.
func (p plan) store(falling bool) api.Store {
	var s api.Store
	for i := range p {
		keys := p.keys(i)
		if falling {
			slices.Reverse(keys)
		}
		for _, k := range keys {
			n, e := tree.Put(s.Tables[i], []byte(k), p[i][k])
			if e != api.OK {
				panic("the test's plan")
			}
			s.Tables[i] = n
		}
	}
	return s
}

// value is a key's value at a stamp; false without one.
func (p plan) value(table int, key string, stamp int) (string, bool) {
	value, is := "", false
	if table < 0 || table > 3 {
		return "", false
	}
	for _, x := range p[table][key] {
		if x.Stamp <= stamp {
			value, is = string(x.Value), !x.Gone
		}
	}
	return value, is
}

// span are the keys in a span.
func (p plan) span(x api.Span) []string {
	if x.Table < 0 || x.Table > 3 {
		return nil
	}
	return slices.DeleteFunc(p.keys(x.Table), func(k string) bool {
		return k < string(x.Lo) || !x.Open && k >= string(x.Hi)
	})
}

// scan is what there is to say of a span's pairs at a stamp.
func (p plan) scan(x api.Span, stamp int) string {
	var l []api.Pair
	for _, k := range p.span(x) {
		if v, is := p.value(x.Table, k, stamp); is {
			l = append(l, api.Pair{Key: []byte(k), Value: []byte(v)})
		}
	}
	return tellPairs(l)
}

// newer tells whether one of a span's versions is above a stamp.
func (p plan) newer(x api.Span, stamp int) bool {
	for _, k := range p.span(x) {
		for _, v := range p[x.Table][k] {
			if v.Stamp > stamp {
				return true
			}
		}
	}
	return false
}

// install is a plan with writes, or the error that is told of them.
func (p plan) install(stamp int, l []api.Write) (plan, api.Errno) {
	for _, w := range l {
		if w.Table < 0 || w.Table > 3 || len(w.Key) > 16 || len(w.Value) > 32 || w.Gone && len(w.Value) > 0 {
			return p, api.ErrArg
		}
	}
	if stamp < 1 || stamp > math.MaxInt32 {
		return p, api.ErrArg
	}
	own := p.clone()
	for _, w := range l {
		m, k := own[w.Table], string(w.Key)
		if old := m[k]; len(old) > 0 && old[len(old)-1].Stamp >= stamp {
			return p, api.ErrStamp
		}
		m[k] = append(slices.Clone(m[k]), api.Version{Stamp: stamp, Gone: w.Gone, Value: w.Value})
		if len(m) > 60 {
			return p, api.ErrFull
		}
	}
	return own, api.OK
}

// vacuum is a plan without what is not read from a stamp on.
func (p plan) vacuum(oldest int) plan {
	own := plan{}
	for i, m := range p {
		own[i] = map[string][]api.Version{}
		for k, l := range m {
			at := -1
			for j, x := range l {
				if x.Stamp <= oldest {
					at = j
				}
			}
			if at < 0 || l[at].Gone {
				at++
			}
			if at < len(l) {
				own[i][k] = l[at:]
			}
		}
	}
	return own
}

// tell is what there is to say of a plan; telling the same of a store, whatever the form of its indexes is; exact is all of a store, their form in it.
func (p plan) tell() string {
	var b []byte
	for i := range p {
		for _, k := range p.keys(i) {
			b = tellKey(b, i, k, p[i][k])
		}
	}
	return string(b)
}
func telling(s api.Store) string {
	var b []byte
	for i, n := range s.Tables {
		if !tree.Check(n) {
			return fmt.Sprintf("table %d may not be", i)
		}
		for _, k := range tree.Keys(n) {
			l, _ := tree.Find(n, k)
			b = tellKey(b, i, string(k), l)
		}
	}
	return string(b)
}
func exact(s api.Store) string {
	var b []byte
	for _, n := range s.Tables {
		b = tellNode(append(b, '\n'), n)
	}
	return string(b)
}
func tellNode(b []byte, n api.Node) []byte {
	for _, k := range n.Keys {
		b = strconv.AppendQuote(b, string(k))
	}
	for _, l := range n.Chains {
		b = append(tellVersions(append(b, '<'), l), '>')
	}
	for _, kid := range n.Kids {
		b = append(tellNode(append(b, '('), kid), ')')
	}
	return b
}
func tellKey(b []byte, table int, key string, l []api.Version) []byte {
	b = strconv.AppendInt(append(b, '\n'), int64(table), 10)
	return tellVersions(strconv.AppendQuote(append(b, ' '), key), l)
}
func tellVersions(b []byte, l []api.Version) []byte {
	for _, x := range l {
		b = strconv.AppendInt(append(b, ' '), int64(x.Stamp), 10)
		b = strconv.AppendQuote(strconv.AppendBool(append(b, ' '), x.Gone), string(x.Value))
	}
	return b
}

// tellPairs is what there is to say of pairs.
func tellPairs(l []api.Pair) string {
	var b []byte
	for _, x := range l {
		b = strconv.AppendQuote(append(strconv.AppendQuote(b, string(x.Key)), ' '), string(x.Value))
		b = append(b, ", "...)
	}
	return string(b)
}

// plain is a value in words, to which it is nothing whether an empty list is nil.
func plain(x any) string { return fmt.Sprintf("%v", x) }

// name is a number as a key, that rises with it.
func name(n int) string { return string([]byte{'a' + byte(n/26), 'a' + byte(n%26)}) }

// many are so many keys, each with versions of its own.
func many(n int) map[string][]api.Version {
	m := map[string][]api.Version{}
	for i := range n {
		all := []api.Version{has(1+i%5, "v"+name(i)), gone(6 + i%3), has(9, ""), gone(12)}
		m[name(i)] = all[i%4/2 : 1+i%4]
	}
	return m
}

// plans are stores that may be.
func plans() map[string]plan {
	long := strings.Repeat("k", 16)
	none := func() map[string][]api.Version { return map[string][]api.Version{} }
	every := []api.Version{}
	for i := range 40 {
		every = append(every, api.Version{Stamp: 2*i + 1, Gone: i%3 == 2, Value: []byte(strings.Repeat("w", 15*(2-i%3)))})
	}
	return map[string]plan{
		"nothing":     rows(none()),
		"one":         rows(map[string][]api.Version{"a": {has(3, "v")}}),
		"an empty":    rows(map[string][]api.Version{"": {has(2, ""), gone(4), has(6, "e")}}),
		"gone alone":  rows(map[string][]api.Version{"a": {gone(2)}, "b": {gone(3), gone(5)}}),
		"some":        rows(map[string][]api.Version{"a": {has(1, "a1"), has(5, "a5")}, "ab": {has(2, ""), gone(4)}, "b": {gone(3), has(7, "b7")}, "c": {has(7, "c7"), gone(8)}, "d": {has(4, "d4")}}),
		"each has":    {{"a": {has(1, "0")}}, {"a": {has(2, "1")}, "b": {gone(3)}}, {"b": {has(3, "2"), gone(5)}}, {"a": {has(4, "3")}, "c": {has(6, "3c")}}},
		"the last":    {none(), none(), none(), {"x": {has(5, "x")}, "y": {gone(2)}}},
		"edges":       rows(map[string][]api.Version{"": {has(1, "e")}, "\x00": {has(2, "\x00")}, "a": {has(1, "a")}, "a\x00": {has(3, "b")}, long: {has(math.MaxInt32, strings.Repeat("v", 32))}, "\x7f": {has(2, "c"), has(math.MaxInt32, "z")}, "\x80": {has(2, "d")}, strings.Repeat("\xff", 16): {has(math.MaxInt32-1, "e"), gone(math.MaxInt32)}}),
		"59":          {many(59), many(3), none(), many(1)},
		"60":          {many(60), none(), many(60), many(59)},
		"all full":    {many(60), many(60), many(60), many(60)},
		"many of one": {none(), {"k": every, "l": every[1:2], "m": every[2:3]}, none(), none()},
	}
}

// big tells whether a plan has many keys: of these less is asked, for time's sake.
func (p plan) big() bool { return len(p[0]) > 20 }

// named are all of a map, in its names' order.
func named[T any](m map[string]T) func(yield func(string, T) bool) {
	return func(yield func(string, T) bool) {
		for _, k := range slices.Sorted(maps.Keys(m)) {
			if !yield(k, m[k]) {
				return
			}
		}
	}
}

// leaf is a node of keys, each with a version.
func leaf(keys ...string) api.Node {
	var n api.Node
	for _, k := range keys {
		n.Keys = append(n.Keys, []byte(k))
		n.Chains = append(n.Chains, []api.Version{has(2, "v"+k)})
	}
	return n
}

// wrongTables are indexes of which none may stand in a store, each for one reason.
func wrongTables() map[string]api.Node {
	all := map[string]api.Node{
		"four keys in a leaf": leaf("a", "b", "c", "d"),
		"keys fall":           leaf("b", "a"),
		"a key twice":         leaf("a", "a"),
		"a key of 17 bytes":   leaf("a", strings.Repeat("k", 17)),
		"keys alone":          {Keys: leaf("a").Keys},
		"versions alone":      {Chains: leaf("a").Chains},
		"kids alone":          {Kids: []api.Node{leaf("a")}},
		"too few kids":        {Keys: leaf("b").Keys, Chains: leaf("b").Chains, Kids: []api.Node{leaf("a")}},
		"a kid is empty":      {Keys: leaf("b").Keys, Chains: leaf("b").Chains, Kids: []api.Node{leaf("a"), {}}},
		"a kid is behind":     {Keys: leaf("b").Keys, Chains: leaf("b").Chains, Kids: []api.Node{leaf("a"), leaf("a")}},
	}
	for why, l := range map[string][]api.Version{
		"no versions":         {},
		"stamp 0":             {{}},
		"stamp 2^31":          {has(1, "a"), has(1<<31, "b")},
		"stamps that fall":    {has(2, "a"), has(1, "b")},
		"a stamp twice":       {has(2, "a"), has(2, "b")},
		"33 bytes of a value": {has(2, strings.Repeat("v", 33))},
		"gone, with a value":  {{Stamp: 2, Gone: true, Value: []byte("v")}},
	} {
		n := leaf("a", "b")
		n.Chains[1] = l
		all[why] = n
	}
	for _, size := range []int{61, 62, 100, 256, 300} {
		var n api.Node
		for i := range size {
			n, _ = tree.Put(n, []byte(name(i)), []api.Version{has(2, "v")})
		}
		all[fmt.Sprintf("%d keys", size)] = n
	}
	return all
}

// wrong are stores that may not be: each of such tables in the place of each table, the others as they may be.
func wrong() map[string]api.Store {
	all := map[string]api.Store{}
	for why, n := range wrongTables() {
		for i := range 4 {
			s := plans()["each has"].store(false)
			s.Tables[i] = n
			all[fmt.Sprintf("%s, table %d", why, i)] = s
		}
	}
	return all
}

// stamps are those to ask at: the edges, and those about a plan's own.
func (p plan) stamps() []int {
	all := []int{math.MinInt, math.MinInt32, -1, 0, 1, 2, 3, 5, math.MaxInt32 - 1, math.MaxInt32, 1 << 31, math.MaxInt}
	for _, m := range p {
		for _, l := range m {
			for _, x := range l {
				all = append(all, x.Stamp-1, x.Stamp, x.Stamp+1)
			}
		}
	}
	slices.Sort(all)
	return slices.Compact(all)
}

// numbers of tables: those that there are, those beside them, and the edges.
var numbers = []int{math.MinInt, math.MinInt32, -4, -1, 0, 1, 2, 3, 4, 5, 8, 256, 1 << 32, math.MaxInt}

// asked are keys to ask for: some that are there, those beside them, and the edges.
func (p plan) asked(some int) []string {
	all := []string{"", "\x00", "a", "aa", "b", "\xff", strings.Repeat("k", 16), strings.Repeat("k", 17), strings.Repeat("\xff", 17)}
	for i := range p {
		keys := p.keys(i)
		for j, k := range keys {
			if j%(1+len(keys)/some) == 0 || j == len(keys)-1 {
				all = append(all, k, k+"\x00")
			}
		}
	}
	slices.Sort(all)
	return slices.Compact(all)
}

// spans are those between all keys to ask for, the other way round too, and with an end that does not matter.
func (p plan) spans(table, some int) []api.Span {
	keys := p.asked(some)
	var all []api.Span
	for _, lo := range keys {
		all = append(all, from(table, lo))
		for _, hi := range keys {
			x := upTo(table, lo, hi)
			all = append(all, x)
			x.Open = true
			all = append(all, x)
		}
	}
	return append(all, api.Span{Table: table}, api.Span{Table: table, Open: true})
}

// nothing fails if anything is told of a table, whatever the key, the span and the stamp are.
func nothing(t *testing.T, s api.Store, table int, what string) {
	t.Helper()
	for _, stamp := range []int{math.MinInt, -1, 0, 1, 2, 3, 6, 99, math.MaxInt} {
		for _, k := range []string{"", "a", "b", "aa", "ab", "c", "x", strings.Repeat("k", 17)} {
			if v, is := store.Get(s, table, []byte(k), stamp); is || len(v) != 0 {
				t.Fatalf("%s, table %d: %q at %d: %q, %v", what, table, k, stamp, v, is)
			}
			for _, x := range []api.Span{from(table, k), upTo(table, "", k), upTo(table, k, "zz")} {
				if l := store.Scan(s, x, stamp); len(l) != 0 || store.Newer(s, x, stamp) {
					t.Fatalf("%s: %v at %d: %s, %v", what, x, stamp, tellPairs(l), store.Newer(s, x, stamp))
				}
			}
		}
	}
}

// same fails unless a store has what a plan has, and may be.
func same(t *testing.T, s api.Store, p plan, what string) {
	t.Helper()
	if got, want := telling(s), p.tell(); got != want || !store.Check(s) {
		t.Fatalf("%s: %v:\n%s\nfor\n%s", what, store.Check(s), got, want)
	}
}

// P7.1
func TestCheck(t *testing.T) {
	for what, p := range named(plans()) {
		if !store.Check(p.store(false)) || !store.Check(p.store(true)) {
			t.Errorf("%s is refused", what)
		}
	}
	for what, s := range named(wrong()) {
		if store.Check(s) {
			t.Errorf("%s", what)
		}
	}
}

// P7.1: of each table alone, up to 60 keys, and beyond; the number of all keys does not matter.
func TestCheckOfMany(t *testing.T) {
	for i := range 4 {
		for _, others := range []int{0, 1, 60} {
			p := plan{many(others), many(others), many(others), many(others)}
			for _, size := range []int{0, 1, 2, 30, 58, 59, 60, 61, 62, 63, 120, 200} {
				p[i] = many(size)
				if is := store.Check(p.store(size%2 == 0)); is != (size <= 60) {
					t.Errorf("table %d, %d keys, beside %d: %v", i, size, others, is)
				}
			}
		}
	}
}

// P7.1: the chapter's example.
func TestExample(t *testing.T) {
	s, e := store.Install(api.Store{}, 3, put(0, "a", "v"))
	if v, is := store.Get(s, 0, []byte("a"), 2); e != api.OK || is || len(v) != 0 {
		t.Errorf("%v: %q, %v", e, v, is)
	}
	if v, is := store.Get(s, 0, []byte("a"), 3); !is || string(v) != "v" {
		t.Errorf("%q, %v", v, is)
	}
}

// P7.1
func TestGet(t *testing.T) {
	for what, p := range named(plans()) {
		some, stamps := 99, p.stamps()
		if p.big() {
			some, stamps = 9, []int{0, 1, 3, 5, 6, 8, 9, 12}
		}
		for _, s := range []api.Store{p.store(false), p.store(true)} {
			for table := range 4 {
				for _, k := range p.asked(some) {
					for _, stamp := range stamps {
						want, there := p.value(table, k, stamp)
						if v, is := store.Get(s, table, []byte(k), stamp); is != there || string(v) != want {
							t.Fatalf("%s: %q of %d at %d: %q, %v for %q, %v", what, k, table, stamp, v, is, want, there)
						}
					}
				}
			}
		}
	}
}

// P7.1: an empty value is one; gone is none.
func TestEmptyValue(t *testing.T) {
	s := rows(map[string][]api.Version{"a": {{Stamp: 2}, gone(4), {Stamp: 6, Value: []byte{}}}}).store(false)
	for stamp := range 9 {
		want := 2 <= stamp && stamp < 4 || stamp >= 6
		v, is := store.Get(s, 0, []byte("a"), stamp)
		l := store.Scan(s, from(0, ""), stamp)
		if is != want || len(v) != 0 || (len(l) == 1) != want || len(l) > 1 {
			t.Errorf("%d: %q, %v, %s", stamp, v, is, tellPairs(l))
		}
	}
}

// P7.1
func TestScanAndNewer(t *testing.T) {
	for what, p := range named(plans()) {
		some, stamps := 3, p.stamps()
		if p.big() {
			some, stamps = 1, []int{0, 4, 7, 12}
		}
		for table := range 4 {
			s := p.store(table%2 == 1)
			for at, x := range p.spans(table, some) {
				// Not each with each: all stamps come, one behind the other.
				for i := at % 5; i < len(stamps); i += 5 {
					if l, want := tellPairs(store.Scan(s, x, stamps[i])), p.scan(x, stamps[i]); l != want {
						t.Fatalf("%s: %v at %d: %s for %s", what, x, stamps[i], l, want)
					}
					if is := store.Newer(s, x, stamps[i]); is != p.newer(x, stamps[i]) {
						t.Fatalf("%s: %v, newer than %d: %v", what, x, stamps[i], is)
					}
				}
			}
		}
	}
}

// P7.1: a span begins at Lo, and ends ahead of Hi; it has no end if it is Open, whatever Hi is.
func TestSpans(t *testing.T) {
	s := rows(map[string][]api.Version{"": {has(1, "0")}, "a": {has(2, "1")}, "ab": {has(3, "2")}, "b": {has(4, "3")}, "c": {gone(5)}}).store(false)
	long := strings.Repeat("z", 1000)
	for i, c := range []struct {
		x    api.Span
		want string
		last int
	}{
		{api.Span{Open: true}, "0123", 5},
		{api.Span{}, "", 0},
		{from(0, ""), "0123", 5},
		{from(0, "\x00"), "123", 5},
		{from(0, "a"), "123", 5},
		{from(0, "a\x00"), "23", 5},
		{from(0, "b"), "3", 5},
		{from(0, "b\x00"), "", 5},
		{from(0, "c"), "", 5},
		{from(0, "c\x00"), "", 0},
		{from(0, long), "", 0},
		{upTo(0, "", ""), "", 0},
		{upTo(0, "", "\x00"), "0", 1},
		{upTo(0, "", "a"), "0", 1},
		{upTo(0, "", "a\x00"), "01", 2},
		{upTo(0, "", "ab"), "01", 2},
		{upTo(0, "", "b"), "012", 3},
		{upTo(0, "a", "b"), "12", 3},
		{upTo(0, "a", "a"), "", 0},
		{upTo(0, "b", "a"), "", 0},
		{upTo(0, "ab", "c"), "23", 4},
		{upTo(0, "", long), "0123", 5},
		{upTo(0, long, long+"z"), "", 0},
		{api.Span{Lo: []byte("ab"), Hi: []byte("a"), Open: true}, "23", 5},
		{api.Span{Lo: []byte("a"), Hi: []byte("b"), Open: true}, "123", 5},
		{api.Span{Lo: []byte("b"), Hi: []byte(long), Open: true}, "3", 5},
		{api.Span{Table: 1, Open: true}, "", 0},
		{api.Span{Table: 3, Open: true}, "", 0},
	} {
		got := ""
		for _, x := range store.Scan(s, c.x, 9) {
			got += string(x.Value)
		}
		if got != c.want {
			t.Errorf("%d: %q", i, got)
		}
		for stamp := range 7 {
			if is := store.Newer(s, c.x, stamp); is != (stamp < c.last) {
				t.Errorf("%d, newer than %d: %v", i, stamp, is)
			}
		}
	}
}

// P7.1: of each key that is in a span it is told whether it is newer, wherever it stands, be it gone or not.
func TestNewerOfEach(t *testing.T) {
	for at := range 60 {
		p := rows(map[string][]api.Version{})
		for i := range 60 {
			p[0][name(i)] = []api.Version{has(2, "v")}
		}
		p[0][name(at)] = [][]api.Version{{has(2, "v"), gone(5)}, {has(5, "w")}}[at%2]
		s := p.store(false)
		for stamp := range 7 {
			whole, before, behind := store.Newer(s, from(0, ""), stamp), store.Newer(s, upTo(0, "", name(at)), stamp), store.Newer(s, from(0, name(at)+"\x00"), stamp)
			alone := store.Newer(s, upTo(0, name(at), name(at)+"\x00"), stamp)
			if whole != (stamp < 5) || alone != (stamp < 5) || before != (stamp < 2 && at > 0) || behind != (stamp < 2 && at < 59) {
				t.Fatalf("%d, newer than %d: %v, %v, %v, %v", at, stamp, whole, before, alone, behind)
			}
		}
	}
}

// P7.1: of a store that may not be, or a table that there is not, nothing is told.
func TestNothing(t *testing.T) {
	for what, s := range named(wrong()) {
		for table := -1; table < 5; table++ {
			nothing(t, s, table, what)
		}
	}
	for _, what := range []string{"each has", "all full"} {
		for _, table := range numbers {
			if table < 0 || table > 3 {
				nothing(t, plans()[what].store(false), table, what)
			}
		}
	}
}

// told fails unless Install tells of a store of a plan what is told of the plan; toldOf of one that was made.
func told(t *testing.T, p plan, stamp int, l []api.Write, what string) {
	t.Helper()
	toldOf(t, p.store(len(l)%2 == 1), p, stamp, l, what)
}
func toldOf(t *testing.T, s api.Store, p plan, stamp int, l []api.Write, what string) {
	t.Helper()
	got, e := store.Install(s, stamp, l...)
	want, f := p.install(stamp, l)
	if e != f || e != api.OK && exact(got) != exact(s) {
		t.Fatalf("%s: %v at %d: %v for %v", what, l, stamp, e, f)
	}
	if e == api.OK {
		same(t, got, want, what)
	}
}

// P7.2: one write, of each table and key, at each stamp.
func TestInstallOne(t *testing.T) {
	for what, p := range named(plans()) {
		some, stamps := 99, []int{math.MinInt, -1, 0, 1, 2, 3, 4, 5, 6, 7, 8, 80, math.MaxInt32 - 1, math.MaxInt32, 1 << 31, math.MaxInt}
		if p.big() {
			some, stamps = 1, []int{0, 5, 9, 13}
		}
		s := p.store(true)
		for _, k := range p.asked(some) {
			for _, stamp := range stamps {
				for table := range 4 {
					toldOf(t, s, p, stamp, []api.Write{put(table, k, "new")}, what)
					if table%2 == 0 {
						toldOf(t, s, p, stamp, []api.Write{away(table, k)}, what)
					}
				}
			}
		}
		for _, table := range numbers {
			toldOf(t, s, p, 90, []api.Write{put(table, "n", "new")}, what)
			toldOf(t, s, p, 90, []api.Write{put(1, "n", ""), away(table, "a")}, what)
		}
	}
}

// P7.2: all lists of up to three of some writes, in all orders, some of them wrong.
func TestInstallFew(t *testing.T) {
	some := []api.Write{put(0, "a", "new"), away(0, "a"), put(0, "b", ""), away(3, "a"), put(3, "d", "new"), put(1, "b", "new"), put(4, "a", ""), {Key: []byte("a"), Gone: true, Value: []byte("v")}}
	lists := [][]api.Write{nil, {}}
	for _, a := range some {
		lists = append(lists, []api.Write{a})
		for _, b := range some {
			lists = append(lists, []api.Write{a, b})
			for _, c := range some {
				lists = append(lists, []api.Write{a, b, c})
			}
		}
	}
	for _, what := range []string{"nothing", "each has", "some"} {
		p := plans()[what]
		s := p.store(false)
		for i, l := range lists {
			for _, stamp := range [][]int{{1, 3, 5, 10}, {0, 4, math.MaxInt32, 1 << 31}}[i%2] {
				toldOf(t, s, p, stamp, l, what)
			}
		}
	}
}

// P7.2: without writes there is no change, and still a stamp that may not be.
func TestInstallNone(t *testing.T) {
	for what, p := range named(plans()) {
		for _, stamp := range []int{math.MinInt, math.MinInt32, -1, 0, 1, 2, math.MaxInt32 - 1, math.MaxInt32, 1 << 31, 1 << 32, 1<<32 + 1, math.MaxInt} {
			told(t, p, stamp, nil, what)
			told(t, p, stamp, []api.Write{}, what)
		}
	}
}

// P7.2: each limit of a write, to the last one.
func TestInstallLimits(t *testing.T) {
	for _, what := range []string{"nothing", "each has"} {
		p := plans()[what]
		s := p.store(false)
		for _, key := range []int{0, 1, 15, 16, 17, 18, 32, 255, 256, 1 << 16} {
			for _, value := range []int{0, 1, 16, 31, 32, 33, 34, 64, 255, 256, 288, 1 << 16} {
				for _, out := range []bool{false, true} {
					w := api.Write{Table: key % 4, Key: make([]byte, key), Gone: out, Value: make([]byte, value)}
					toldOf(t, s, p, 9, []api.Write{w}, what)
				}
			}
		}
	}
}

// P7.2: a write that may not be, ahead of, between and behind others; those have errors of their own, that are not told then.
func TestInstallOfWrong(t *testing.T) {
	bad := []api.Write{put(-1, "a", "v"), put(4, "a", "v"), put(math.MinInt, "a", "v"), put(math.MaxInt, "a", "v"), put(0, strings.Repeat("k", 17), "v"), put(0, "n", strings.Repeat("v", 33)), {Key: []byte("n"), Gone: true, Value: []byte("v")}, away(7, "a"), away(1, strings.Repeat("k", 17))}
	others := map[string][]api.Write{
		"none":     {},
		"new":      {put(1, "n", "v"), away(2, "n"), put(3, "n", "")},
		"no stamp": {put(0, "aa", "v"), put(0, "aa", "w"), put(0, "ab", "v")},
		"full":     {put(0, "zz", "v"), put(0, "zzz", "v")},
	}
	s := plans()["60"].store(false)
	was := exact(s)
	for i, w := range bad {
		for what, l := range named(others) {
			for at := range len(l) + 1 {
				for _, stamp := range []int{0, 3, 99, 1 << 31} {
					if got, e := store.Install(s, stamp, slices.Insert(slices.Clone(l), at, w)...); e != api.ErrArg || exact(got) != was {
						t.Errorf("%d, %s, at %d, stamp %d: %v", i, what, at, stamp, e)
					}
				}
			}
		}
	}
	for what, l := range named(others) {
		for _, stamp := range []int{math.MinInt, -1, 0, 1 << 31, math.MaxInt} {
			if got, e := store.Install(s, stamp, l...); e != api.ErrArg || exact(got) != was {
				t.Errorf("%s, stamp %d: %v", what, stamp, e)
			}
		}
	}
}

// P7.2, P7.3: a store that may not be is told as it is; ErrArg goes ahead of all else.
func TestWrongStore(t *testing.T) {
	for what, s := range named(wrong()) {
		was := exact(s)
		for _, l := range [][]api.Write{nil, {put(0, "n", "v")}, {put(3, "a", "v")}, {away(1, "b")}, {put(2, "a", "v"), put(2, "a", "v")}, {put(4, "a", "v")}} {
			for _, stamp := range []int{0, 1, 9, math.MaxInt32} {
				if got, e := store.Install(s, stamp, l...); e != api.ErrArg || exact(got) != was {
					t.Errorf("%s: Install of %v at %d: %v", what, l, stamp, e)
				}
			}
		}
		for _, oldest := range []int{math.MinInt, 0, 1, 2, 3, 99, math.MaxInt} {
			if got := store.Vacuum(s, oldest); exact(got) != was {
				t.Errorf("%s: Vacuum by %d", what, oldest)
			}
		}
	}
}

// P7.2: no key twice, whatever is written, and whatever is between; a key of two tables is two.
func TestNoKeyTwice(t *testing.T) {
	for what, p := range named(plans()) {
		s := p.store(false)
		was := exact(s)
		for _, k := range []string{"", "n", strings.Repeat("n", 16)} {
			for _, a := range []api.Write{put(1, k, "v"), away(1, k)} {
				for _, b := range []api.Write{put(1, k, "v"), put(1, k, "w"), away(1, k)} {
					if len(p[1]) < 60 {
						if got, e := store.Install(s, 90, a, put(2, "aa", "x"), put(3, "aa", "x"), b); e != api.ErrStamp || exact(got) != was {
							t.Errorf("%s, %q: %v", what, k, e)
						}
					}
				}
			}
		}
		told(t, p, 90, []api.Write{put(0, "aa", "0"), put(1, "aa", "1"), away(2, "aa"), put(3, "aa", "3")}, what)
	}
}

// P7.2: a table has 60 keys at most, those that are gone too; each table by itself.
func TestFull(t *testing.T) {
	for table := range 4 {
		for size := 58; size <= 60; size++ {
			p := plan{many(60), many(60), many(60), many(60)}
			p[table] = many(size)
			s := p.store(false)
			for more := range 5 {
				var l, mixed []api.Write
				for i := range more {
					l = append(l, put(table, "z"+name(i), "v"), put((table+1)%4, name(7*i), "old"))
					mixed = append(mixed, away(table, name(i)), away(table, "z"+name(i)))
				}
				toldOf(t, s, p, 99, l, fmt.Sprint(size))
				toldOf(t, s, p, 99, mixed, fmt.Sprint(size))
				_, e := store.Install(s, 99, l...)
				if (e == api.ErrFull) != (size+more > 60) || e != api.OK && e != api.ErrFull {
					t.Errorf("%d and %d: %v", size, more, e)
				}
			}
		}
	}
}

// P7.2: the error is that of the first write that has one: each is whole ahead of the next one.
func TestFirstError(t *testing.T) {
	p := plans()["60"]
	s := p.store(false)
	old, more, fine := put(0, "aa", "v"), put(0, "zz", "v"), put(3, "zz", "v")
	at := p[0]["aa"][len(p[0]["aa"])-1].Stamp
	for i, c := range []struct {
		l []api.Write
		e api.Errno
	}{
		{[]api.Write{old, more}, api.ErrStamp},
		{[]api.Write{more, old}, api.ErrFull},
		{[]api.Write{fine, more, old}, api.ErrFull},
		{[]api.Write{fine, old, more}, api.ErrStamp},
		{[]api.Write{fine, fine, more}, api.ErrStamp},
		{[]api.Write{more, fine, fine}, api.ErrFull},
		{[]api.Write{more, more}, api.ErrFull},
		{[]api.Write{fine, put(3, "zzz", "v"), old}, api.ErrFull},
		{[]api.Write{fine, old, put(3, "zzz", "v")}, api.ErrStamp},
		{[]api.Write{fine}, api.OK},
	} {
		got, e := store.Install(s, at, c.l...)
		if e != c.e || e != api.OK && exact(got) != exact(s) {
			t.Errorf("%d: %v", i, e)
		}
		toldOf(t, s, p, at, c.l, fmt.Sprint(i))
	}
}

// P7.2: as many writes as there is room for, at once; one more is too many.
func TestInstallAll(t *testing.T) {
	var l []api.Write
	for i := range 240 {
		l = append(l, put(i%4, name(i*7%240), "v"))
	}
	told(t, rows(map[string][]api.Version{}), 1, l, "all")
	told(t, plan{{}, {}, {}, {}}, 1, append(l, put(2, "zzz", "")), "one more")
	told(t, plan{{}, {}, {}, {}}, 1, append(l, l[0]), "one again")
	s, _ := store.Install(api.Store{}, 1, l...)
	for stamp := 2; stamp < 6; stamp++ {
		next, e := store.Install(s, stamp, l...)
		if e != api.OK || len(store.Scan(next, from(3, ""), stamp)) != 60 {
			t.Fatalf("%d: %v", stamp, e)
		}
		s = next
	}
}

// P7.3
func TestVacuum(t *testing.T) {
	for what, p := range named(plans()) {
		for _, s := range []api.Store{p.store(false), p.store(true)} {
			for _, oldest := range p.stamps() {
				same(t, store.Vacuum(s, oldest), p.vacuum(oldest), fmt.Sprintf("%s by %d", what, oldest))
			}
			same(t, s, p, what)
		}
	}
}

// P7.3: whichever of a table's keys go, the others stay; of each table.
func TestVacuumOfSome(t *testing.T) {
	for table := range 4 {
		for _, size := range []int{1, 2, 3, 7, 20, 60} {
			for _, step := range []int{1, 2, 3, 5, 17} {
				p := plan{many(5), many(6), many(7), many(8)}
				p[table] = map[string][]api.Version{}
				for i := range size {
					p[table][name(i)] = []api.Version{has(2, "v"), has(3, "w")}
					if i%step == 0 {
						p[table][name(i)] = [][]api.Version{{has(2, "v"), gone(4)}, {gone(1)}, {gone(2), gone(3), gone(4)}}[i%3]
					}
				}
				for oldest := range 6 {
					same(t, store.Vacuum(p.store(false), oldest), p.vacuum(oldest), fmt.Sprintf("%d of %d by %d", step, size, oldest))
				}
			}
		}
	}
}

// P7.3: a key that is gone makes room when nobody reads it any more; ahead of that it does not.
func TestRoom(t *testing.T) {
	for table := range 4 {
		p := plan{}
		p[table] = map[string][]api.Version{}
		for i := range 60 {
			p[table][name(i)] = []api.Version{has(2, "v")}
		}
		s, e := store.Install(p.store(false), 20, away(table, "aa"), put(table, "ab", "w"))
		if e != api.OK {
			t.Fatal(e)
		}
		for oldest := range 23 {
			v := store.Vacuum(s, oldest)
			w, e := store.Install(v, 21, put(table, "n", "v"))
			if l := tellPairs(store.Scan(w, upTo(table, "n", "n\x00"), 21)); (e == api.OK) != (oldest >= 20) || e != api.OK && e != api.ErrFull || (l == `"n" "v", `) != (e == api.OK) {
				t.Errorf("table %d, by %d: %v, %s", table, oldest, e, l)
			}
			// A key that went takes an older stamp too.
			if _, e := store.Install(v, 1, put(table, "aa", "v")); (e == api.OK) != (oldest >= 20) || e != api.OK && e != api.ErrStamp {
				t.Errorf("table %d, by %d, at 1: %v", table, oldest, e)
			}
		}
	}
}

// reads is what there is to say of a store by all that is read of it at a stamp.
func reads(s api.Store, keys []string, stamp int) string {
	var b []byte
	for table := range 4 {
		for _, k := range keys {
			v, is := store.Get(s, table, []byte(k), stamp)
			b = strconv.AppendBool(strconv.AppendQuote(b, string(v)), is)
			b = strconv.AppendBool(b, store.Newer(s, upTo(table, k, k+"\x00"), stamp))
		}
		b = append(b, tellPairs(store.Scan(s, from(table, ""), stamp))...)
		b = append(strconv.AppendBool(b, store.Newer(s, from(table, ""), stamp)), '\n')
	}
	return string(b)
}

// P7.4: what is read from a stamp on is the same ahead of a vacuum by it, and behind; what is installed then is read behind both.
func TestReadBehindVacuum(t *testing.T) {
	for what, p := range named(plans()) {
		s, keys, stamps := p.store(false), p.asked(2), p.stamps()
		if p.big() {
			keys, stamps = keys[:3], []int{0, 5, 7, 9, 12}
		}
		l := []api.Write{put(0, "a", "new"), away(1, "a"), put(3, "aa", "")}
		more, e := store.Install(s, math.MaxInt32, l...)
		for i, oldest := range stamps {
			v := store.Vacuum(s, oldest)
			w, f := store.Install(v, math.MaxInt32, l...)
			for j := i; j < len(stamps); j += 1 + len(stamps)/20 {
				if a, b := reads(s, keys, stamps[j]), reads(v, keys, stamps[j]); a != b {
					t.Fatalf("%s by %d, at %d:\n%s\nfor\n%s", what, oldest, stamps[j], b, a)
				}
				if e != api.OK || f != api.OK {
					continue
				}
				if a, b := reads(more, keys, stamps[j]), reads(w, keys, stamps[j]); a != b {
					t.Fatalf("%s by %d, and more, at %d:\n%s\nfor\n%s", what, oldest, stamps[j], b, a)
				}
			}
		}
	}
}

// P7.4: what is installed is read from its stamp on, and what was ahead as it was.
func TestReadBehindInstall(t *testing.T) {
	l := []api.Write{put(0, "a", "new"), away(1, "a"), put(1, "b", "w"), put(3, "aa", "")}
	for what, p := range named(plans()) {
		for _, stamp := range []int{13, 90} {
			m, e := store.Install(p.store(true), stamp, l...)
			if full := what == "60" || what == "all full"; (e == api.OK) == full {
				t.Errorf("%s: %v", what, e)
			}
			for _, at := range []int{0, 1, 5, stamp - 1, stamp, stamp + 1, math.MaxInt} {
				for _, k := range p.asked(2) {
					for table := range 4 {
						want, there := p.value(table, k, at)
						for _, w := range l {
							if e == api.OK && at >= stamp && w.Table == table && string(w.Key) == k {
								want, there = string(w.Value), !w.Gone
							}
						}
						if v, is := store.Get(m, table, []byte(k), at); string(v) != want || is != there {
							t.Errorf("%s: %q of %d at %d: %q, %v", what, k, table, at, v, is)
						}
						x := upTo(table, k, k+"\x00")
						if l := store.Scan(m, x, at); len(l) > 1 || (len(l) == 1) != there || there && string(l[0].Value) != want {
							t.Errorf("%s: %q of %d at %d: %s", what, k, table, at, tellPairs(l))
						}
					}
				}
			}
		}
	}
}

// P7.4: many are installed, one behind the other, and vacuumed at times; each stamp is read as a plain map was then.
func TestToAndFro(t *testing.T) {
	state := uint32(7)
	next := func(n int) int {
		state = state*1664525 + 1013904223
		return int(state>>8) % n
	}
	keys := []string{"", "\x00", "a", "aa", "ab", "b", "c", "cc", "\x80", strings.Repeat("\xff", 16)}
	var s api.Store
	type at struct{ table, key int }
	now := map[at]string{}
	past := map[int]map[at]string{0: {}}
	oldest, stamp := 0, 0
	for range 400 {
		stamp += 1 + next(2)
		var l []api.Write
		for range next(6) {
			p := at{next(4), next(len(keys))}
			if slices.ContainsFunc(l, func(w api.Write) bool { return w.Table == p.table && string(w.Key) == keys[p.key] }) {
				continue
			}
			if next(3) == 0 {
				l = append(l, away(p.table, keys[p.key]))
				delete(now, p)
			} else {
				now[p] = strings.Repeat("v", next(3)) + fmt.Sprint(stamp)
				l = append(l, put(p.table, keys[p.key], now[p]))
			}
		}
		more, e := store.Install(s, stamp, l...)
		if e != api.OK {
			t.Fatal(e)
		}
		s = more
		past[stamp] = maps.Clone(now)
		if next(4) == 0 {
			oldest += next(stamp - oldest + 1)
			s = store.Vacuum(s, oldest)
		}
		last := past[0]
		for i := range stamp + 2 {
			if m, is := past[i]; is {
				last = m
			}
			if i < oldest || i < stamp-30 {
				continue
			}
			for table := range 4 {
				want := ""
				for j, k := range keys {
					v, is := store.Get(s, table, []byte(k), i)
					w, there := last[at{table, j}]
					if is != there || string(v) != w {
						t.Fatalf("%q of %d at %d: %q, %v for %q, %v", k, table, i, v, is, w, there)
					}
					if there {
						want += fmt.Sprintf("%q %q, ", k, w)
					}
				}
				if got := tellPairs(store.Scan(s, from(table, ""), i)); got != want {
					t.Fatalf("%d at %d: %s for %s", table, i, got, want)
				}
			}
		}
	}
}

// R1: all calls end on tables that are long, or deep, and on many writes.
func TestLongAndDeep(t *testing.T) {
	row, line := api.Node{}, leaf("a")
	for i := range 1 << 15 {
		row.Keys, row.Chains = append(row.Keys, []byte(name(i%600))), append(row.Chains, []api.Version{has(i, "v")})
		line = api.Node{Keys: leaf("b").Keys, Chains: leaf("b").Chains, Kids: []api.Node{line, leaf("c")}}
	}
	for i, n := range []api.Node{row, line} {
		for table := range 4 {
			var s api.Store
			s.Tables[table] = n
			nothing(t, s, table, fmt.Sprint(i))
			got, e := store.Install(s, 1, put(0, "a", "v"))
			if v := store.Vacuum(s, 9); store.Check(s) || e != api.ErrArg || len(got.Tables[table].Keys) != len(n.Keys) || len(v.Tables[table].Keys) != len(n.Keys) {
				t.Errorf("%d, %d: %v", i, table, e)
			}
		}
	}
	l := slices.Repeat([]api.Write{put(0, "a", "v"), put(1, "b", "w")}, 1<<15)
	if _, e := store.Install(api.Store{}, 1, l...); e != api.ErrStamp {
		t.Error(e)
	}
	if _, e := store.Install(api.Store{}, 1, append(l, put(4, "", ""))...); e != api.ErrArg {
		t.Error(e)
	}
}

// answers are what all calls tell, of a store, a span (its Lo is the key), a stamp and writes.
func answers(s api.Store, x api.Span, stamp int, l []api.Write) map[string]any {
	type get struct {
		Value []byte
		Is    bool
	}
	type install struct {
		S   api.Store
		Err api.Errno
	}
	v, is := store.Get(s, x.Table, x.Lo, stamp)
	more, e := store.Install(s, stamp, l...)
	return map[string]any{
		"Check":   store.Check(s),
		"Get":     get{v, is},
		"Scan":    store.Scan(s, x, stamp),
		"Newer":   store.Newer(s, x, stamp),
		"Install": install{more, e},
		"Vacuum":  store.Vacuum(s, stamp),
	}
}

// ask is what to call with.
type ask struct {
	S     api.Store
	X     api.Span
	Stamp int
	L     []api.Write
}

func (a ask) answers() map[string]any { return answers(a.S, a.X, a.Stamp, a.L) }

// asks are some stores, that may be, and that may not, with spans, stamps and writes.
func asks() []ask {
	var stores []api.Store
	for _, what := range []string{"nothing", "an empty", "some", "each has", "edges"} {
		stores = append(stores, plans()[what].store(true))
	}
	bad := wrong()
	for i, what := range slices.Sorted(maps.Keys(bad)) {
		if i%9 == 0 && !strings.Contains(what, "00 keys") {
			stores = append(stores, bad[what])
		}
	}
	lists := [][]api.Write{nil, {put(0, "a", "v")}, {put(0, "n", "v"), away(1, "b"), put(3, "c", "vv"), put(2, "n", "")}, {put(1, "n", "v"), put(1, "n", "v")}, {put(0, "z", "z"), put(4, "a", "v")}}
	var all []ask
	for _, s := range stores {
		for i, stamp := range []int{0, 1, 3, 5, 9, 1 << 31} {
			for j, x := range []api.Span{from(0, ""), upTo(0, "a", "c"), upTo(1, "a", "b"), {Table: 3, Open: true}, from(4, "a")} {
				all = append(all, ask{s, x, stamp, lists[(i+j)%len(lists)]})
			}
			for _, l := range lists {
				all = append(all, ask{s, upTo(0, "b", "b\x00"), stamp, l})
			}
		}
	}
	// And one that is full.
	s := plans()["60"].store(true)
	for _, l := range append(lists, []api.Write{put(1, "n", "v"), put(0, "n", "v")}) {
		all = append(all, ask{s, upTo(0, "b", "c"), 9, l}, ask{s, from(2, ""), 20, l})
	}
	return all
}

// lists hands over all lists in a value, and in their spare room.
func lists(v reflect.Value, do func(l reflect.Value)) {
	switch v.Kind() {
	case reflect.Interface:
		lists(v.Elem(), do)
	case reflect.Struct:
		for i := range v.NumField() {
			lists(v.Field(i), do)
		}
	case reflect.Array:
		for i := range v.Len() {
			lists(v.Index(i), do)
		}
	case reflect.Slice:
		if v.Cap() > 0 {
			l := v.Slice3(0, v.Cap(), v.Cap())
			do(l)
			for i := range l.Len() {
				lists(l.Index(i), do)
			}
		}
	}
}

// room is the memory of a list, its spare room in it; rooms are those of all lists in a value.
type room struct{ from, to uintptr }

func rooms(x any) []room {
	var all []room
	lists(reflect.ValueOf(x), func(l reflect.Value) {
		all = append(all, room{l.Pointer(), l.Pointer() + uintptr(l.Len())*l.Type().Elem().Size()})
	})
	return all
}

// apart tells whether no room reaches into another one's.
func apart(all ...[]room) bool {
	one := slices.Concat(all...)
	slices.SortFunc(one, func(a, b room) int { return int(a.from) - int(b.from) })
	for i := 1; i < len(one); i++ {
		if one[i].from < one[i-1].to {
			return false
		}
	}
	return true
}

// whole is all that is in a value, the lists' spare room in it.
func whole(x any) string {
	var b strings.Builder
	fmt.Fprintf(&b, "%v\n", x)
	lists(reflect.ValueOf(x), func(l reflect.Value) { fmt.Fprintf(&b, "%v\n", l) })
	return b.String()
}

// spoil overwrites all lists in a value, and their spare room, with other elements.
func spoil(x any) {
	var all []reflect.Value
	lists(reflect.ValueOf(x), func(l reflect.Value) { all = append(all, l) })
	for _, l := range all {
		for i := range l.Len() {
			if b, is := l.Index(i).Addr().Interface().(*byte); is {
				*b += 101
				continue
			}
			l.Index(i).Set(spoilt(l.Type().Elem()))
		}
	}
}

// spoilt is an element that stands in none of the test's lists.
func spoilt(t reflect.Type) reflect.Value {
	for _, x := range []any{byte('z'), []byte("spoilt"), []api.Version{has(77, "spoilt")}, api.Version{Stamp: -7, Value: []byte("spoilt")}, leaf("spoilt"), put(-7, "spoilt", ""), api.Pair{Key: []byte("spoilt")}} {
		if reflect.TypeOf(x) == t {
			return reflect.ValueOf(x)
		}
	}
	panic("spoilt: " + t.String())
}

// twin is what there is to call with, in memory of its own; with spare room, in which something stands, in each list.
func twin(a ask, spare bool) ask {
	v := reflect.New(reflect.TypeOf(a)).Elem()
	v.Set(reflect.ValueOf(a))
	remake(v, spare)
	return v.Interface().(ask)
}
func remake(v reflect.Value, spare bool) {
	switch v.Kind() {
	case reflect.Struct:
		for i := range v.NumField() {
			remake(v.Field(i), spare)
		}
	case reflect.Array:
		for i := range v.Len() {
			remake(v.Index(i), spare)
		}
	case reflect.Slice:
		size, more := v.Len(), 0
		if spare {
			more = 2
		}
		own := reflect.MakeSlice(v.Type(), size, size+more)
		reflect.Copy(own, v)
		for i := range size {
			remake(own.Index(i), spare)
		}
		for i := range more {
			x := own.Slice(0, size+more).Index(size + i)
			x.Set(spoilt(x.Type()))
			remake(x, false)
		}
		v.Set(own)
	}
}

// R3, R4: nothing is written into what is handed in, or its spare room, by a call, or by who has its answers.
func TestArgumentsStay(t *testing.T) {
	for _, a := range asks() {
		own := twin(a, true)
		was := whole(own)
		for _, x := range own.answers() {
			spoil(x)
		}
		if whole(own) != was {
			t.Fatalf("%v: what was handed in is changed", a)
		}
	}
}

// R4: what is answered stays, whatever becomes of what was handed in.
func TestAnswersStay(t *testing.T) {
	for _, a := range asks() {
		own := twin(a, false)
		got := own.answers()
		spoil(own)
		for call, want := range a.answers() {
			if plain(got[call]) != plain(want) {
				t.Fatalf("%s, %v: %v for %v", call, a, got[call], want)
			}
		}
	}
}

// R4: no two lists of one answer share memory, nor do an answer's and an argument's, nor two answers'.
func TestListsApart(t *testing.T) {
	for _, a := range asks() {
		own := twin(a, true)
		handed := rooms(own)
		first, second := own.answers(), own.answers()
		for call, x := range first {
			if !apart(rooms(x), handed, rooms(second[call])) {
				t.Fatalf("%s, %v: memory is shared", call, a)
			}
		}
		// Memory that nobody has any more may be another one's.
		runtime.KeepAlive(own)
	}
}

// R4: nor do they when it was shared in what was handed in.
func TestSharedArguments(t *testing.T) {
	text := []byte("abcdefghijklmno")
	l := []api.Version{{Stamp: 1, Value: text}, {Stamp: 2, Value: text[3:7]}, {Stamp: 3, Value: text[:2]}}
	n := api.Node{Keys: [][]byte{text[:1], text[1:2], text[2:9]}, Chains: [][]api.Version{l, l, l[1:]}}
	bad := n
	bad.Kids = []api.Node{n, n}
	w := api.Write{Key: text[:1], Value: text[:9]}
	writes := []api.Write{w, {Table: 1, Key: text[:1], Value: text[:1]}, {Table: 2, Key: text, Value: text}, {Table: 2, Key: text[3:]}}
	for _, c := range [][4]api.Node{{n, n, n, n}, {n, n, n, bad}} {
		for _, stamp := range []int{0, 2, 3, 4} {
			for _, list := range [][]api.Write{writes[:3], {w, w}, writes[1:], nil} {
				a := ask{api.Store{Tables: c}, api.Span{Table: 1, Lo: text[:1], Hi: text[2:]}, stamp, list}
				was := whole(a) + whole(text)
				handed := rooms(a)
				for call, x := range a.answers() {
					got := rooms(x)
					if !apart(got) {
						t.Fatalf("%s, %v: memory is shared", call, a)
					}
					for _, r := range handed {
						if !apart(got, []room{r}) {
							t.Fatalf("%s, %v: memory is shared with an argument", call, a)
						}
					}
					spoil(x)
					if whole(a)+whole(text) != was {
						t.Fatalf("%s, %v: what was handed in is changed", call, a)
					}
				}
			}
		}
	}
}

// R4, R5: a store goes on two ways, each as if there were no other one.
func TestTwoWays(t *testing.T) {
	p := plans()["each has"]
	s := p.store(false)
	for i := range 40 {
		table, k, stamp := i%4, name(i%7), 20+i
		one, two := []api.Write{put(table, k, "one"), put(3-table, "x", "")}, []api.Write{away(table, k), put(table, "y", "two")}
		a, e := store.Install(s, stamp, one...)
		b, f := store.Install(s, stamp, two...)
		v := store.Vacuum(s, stamp)
		pa, _ := p.install(stamp, one)
		pb, _ := p.install(stamp, two)
		if e != api.OK || f != api.OK {
			t.Fatalf("%d: %v, %v", i, e, f)
		}
		same(t, s, p, "as it was")
		same(t, a, pa, "one")
		same(t, b, pb, "two")
		same(t, v, p.vacuum(stamp), "vacuum")
		s, p = a, pa
	}
}

// R5: spare room, what stands in it, and whether an empty list is nil, is nothing to an answer; nor is what was asked ahead.
func TestNothingElseMatters(t *testing.T) {
	var first []map[string]any
	all := asks()
	for _, a := range all {
		first = append(first, a.answers())
	}
	for i, a := range slices.Backward(all) {
		for _, spare := range []bool{false, true} {
			for call, x := range twin(a, spare).answers() {
				if plain(x) != plain(first[i][call]) {
					t.Fatalf("%s, %v: %v, ahead of it %v", call, a, x, first[i][call])
				}
			}
		}
	}
	filled := ask{X: api.Span{Lo: []byte{}, Hi: []byte{}, Open: true}, Stamp: 3, L: []api.Write{{Key: []byte{}, Value: []byte{}}}}
	bare := ask{X: api.Span{Open: true}, Stamp: 3, L: []api.Write{{}}}
	filled.S.Tables[0] = api.Node{Keys: [][]byte{{}}, Chains: [][]api.Version{{{Stamp: 1, Value: []byte{}}}}, Kids: []api.Node{}}
	bare.S.Tables[0] = api.Node{Keys: [][]byte{nil}, Chains: [][]api.Version{{{Stamp: 1}}}}
	for call, x := range filled.answers() {
		if y := bare.answers()[call]; plain(x) != plain(y) {
			t.Errorf("%s: %v, %v", call, x, y)
		}
	}
}
