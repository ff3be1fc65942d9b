package txn_test

import (
	"fmt"
	"maps"
	"math"
	"reflect"
	"runtime"
	"slices"
	"strconv"
	"strings"
	"testing"

	"banksman/api"
	"banksman/delta"
	"banksman/lock"
	"banksman/span"
	"banksman/store"
	"banksman/txn"
)

// one is an operation of a kind, of a key of table 0, with a value; many is a scan of keys of table 0, to the end without hi; number is one with a number.
func one(kind int, key, value string) api.Op {
	return api.Op{Kind: kind, Key: []byte(key), Value: []byte(value)}
}
func many(lo, hi string) api.Op {
	return api.Op{Kind: api.KScan, Key: []byte(lo), Hi: []byte(hi), Open: hi == ""}
}
func number(kind, n int) api.Op { return api.Op{Kind: kind, N: n} }

// of is an operation, of another table.
func of(table int, o api.Op) api.Op {
	o.Table = table
	return o
}

// put and away are writes.
func put(table int, key, value string) api.Write {
	return api.Write{Table: table, Key: []byte(key), Value: []byte(value)}
}
func away(table int, key string) api.Write {
	return api.Write{Table: table, Key: []byte(key), Gone: true}
}

// times is so many writes, each of a key of its own.
func times(n int) []api.Write {
	var l []api.Write
	for i := range n {
		l = append(l, put(i%4, "k"+strconv.Itoa(i), "v"))
	}
	return l
}

// commit is what was written at a stamp; history are those that a store has seen, whose stamps rise.
type commit struct {
	stamp int
	l     []api.Write
}
type history []commit

// some is a history in which keys come, change, go, and come again.
func some() history {
	return history{
		{1, []api.Write{put(0, "a", "1"), put(0, "b", "1"), put(1, "a", "other")}},
		{3, []api.Write{put(0, "a", "3"), away(0, "b"), put(0, "c", "3"), away(2, "a")}},
		{5, []api.Write{away(0, "a"), put(0, "b", ""), put(0, "aa", "5"), put(0, "", "none"), put(3, "z", "5")}},
	}
}

// store makes a store of a history.
func (h history) store() api.Store {
	var s api.Store
	for _, c := range h {
		more, e := store.Install(s, c.stamp, c.l...)
		if e != api.OK {
			panic("the test's history")
		}
		s = more
	}
	return s
}

// view is what there is to see of tables: the values of keys.
type view [4]map[string]string

// at is what there is to see of a history at a stamp.
func (h history) at(stamp int) view {
	v := view{{}, {}, {}, {}}
	for _, c := range h {
		if c.stamp <= stamp {
			v.do(c.l)
		}
	}
	return v
}

// do has writes be seen.
func (v view) do(l []api.Write) {
	for _, w := range l {
		if w.Gone {
			delete(v[w.Table], string(w.Key))
		} else {
			v[w.Table][string(w.Key)] = string(w.Value)
		}
	}
}

// clone is a view that goes on by itself.
func (v view) clone() view {
	for i, m := range v {
		v[i] = maps.Clone(m)
	}
	return v
}

// get and scan are what is told of a key, and of a span.
func (v view) get(o api.Op) api.Reply {
	x, is := v[o.Table][string(o.Key)]
	return api.Reply{Found: is, Value: []byte(x)}
}
func (v view) scan(o api.Op) api.Reply {
	var r api.Reply
	for _, k := range slices.Sorted(maps.Keys(v[o.Table])) {
		if k >= string(o.Key) && (o.Open || k < string(o.Hi)) {
			r.Pairs = append(r.Pairs, api.Pair{Key: []byte(k), Value: []byte(v[o.Table][k])})
		}
	}
	return r
}

// tellReply and tell are what there is to say of a reply, and of a delta, to which it is nothing whether an empty list is nil.
func tellReply(r api.Reply) string { return fmt.Sprintf("%v", r) }
func tell(d api.Delta) string      { return fmt.Sprintf("%v", d) }

// named are all of a map, in its names' order.
func named[T any](m map[string]T) func(yield func(string, T) bool) {
	return func(yield func(string, T) bool) {
		for _, k := range slices.Sorted(maps.Keys(m)) {
			if !yield(k, m[k]) {
				return
			}
		}
	}
}

// odd are numbers, that a table, a mark, a stamp or an owner may be, and others.
var odd = []int{math.MinInt, -1 << 32, math.MinInt32, -1, 0, 1, 2, 3, 4, 5, 6, 11, 12, 256, math.MaxInt32, math.MaxInt32 + 1, 1 << 32, 1<<32 + 1, math.MaxInt}

// right are operations that may be.
func right() map[string]api.Op {
	all := map[string]api.Op{
		"a scan of no key":           {Kind: api.KScan},
		"a scan that ends ahead":     {Kind: api.KScan, Key: []byte("b"), Hi: []byte("a")},
		"a scan of all":              {Kind: api.KScan, Open: true},
		"a scan to the end":          {Kind: api.KScan, Key: []byte("b"), Open: true, Hi: []byte{}},
		"a scan, 16 bytes":           {Kind: api.KScan, Key: make([]byte, 16), Hi: []byte(strings.Repeat("\xff", 16))},
		"a get, with all else":       {Kind: api.KGet, Key: []byte("a"), Hi: []byte("b"), Value: []byte("v"), N: 99},
		"a get, Open":                {Kind: api.KGet, Key: []byte("a"), Open: true, N: math.MinInt},
		"a put, 16 and 32 bytes":     {Kind: api.KPut, Key: []byte(strings.Repeat("k", 16)), Value: []byte(strings.Repeat("v", 32))},
		"an insert, 16 and 32 bytes": {Kind: api.KInsert, Table: 3, Key: []byte(strings.Repeat("k", 16)), Value: []byte(strings.Repeat("v", 32))},
		"a delete, with a value":     {Kind: api.KDelete, Key: []byte("a"), Value: []byte(strings.Repeat("v", 32))},
		"a lock of S":                {Kind: api.KLock, Table: 2, N: api.S},
		"a lock of X, with a key":    {Kind: api.KLock, Table: 3, Key: []byte("a"), N: api.X},
		"one that is held":           number(api.KBegin, 1),
		"any bytes":                  {Kind: api.KPut, Key: []byte("\x00\xff\x80"), Value: []byte("\xff\x00")},
	}
	for kind := 1; kind <= 11; kind++ {
		for table := range 4 {
			if kind != api.KLock {
				all[fmt.Sprint("kind ", kind, " of table ", table)] = of(table, one(kind, "a", "v"))
			}
		}
	}
	for n := range 4 {
		all[fmt.Sprint("back to ", n)] = number(api.KBack, n)
	}
	for _, kind := range []int{api.KGet, api.KPut, api.KInsert, api.KDelete, api.KScan, api.KMark, api.KCommit, api.KAbort} {
		for _, n := range odd {
			all[fmt.Sprint("kind ", kind, ", N ", n)] = number(kind, n)
		}
	}
	return all
}

// wrong are operations that may not be, each for one reason.
func wrong() map[string]api.Op {
	all := map[string]api.Op{"nothing": {}}
	for _, n := range odd {
		if n < 1 || n > 11 {
			all[fmt.Sprint("kind ", n)] = number(n, 3)
		}
		if n != 3 && n != 5 {
			all[fmt.Sprint("a lock, N ", n)] = number(api.KLock, n)
		}
		if n != 0 && n != 1 {
			all[fmt.Sprint("a begin, N ", n)] = number(api.KBegin, n)
		}
		if n < 0 || n > 3 {
			all[fmt.Sprint("back to ", n)] = number(api.KBack, n)
		}
	}
	for kind := 1; kind <= 11; kind++ {
		o := number(kind, 0)
		if kind == api.KLock {
			o.N = api.S
		}
		for _, table := range odd {
			if table < 0 || table > 3 {
				all[fmt.Sprint("kind ", kind, " of table ", table)] = of(table, o)
			}
		}
		for _, size := range []int{17, 272, 1 << 16} {
			long, hi, open := o, o, o
			long.Key, hi.Hi = make([]byte, size), make([]byte, size)
			open.Hi, open.Open = make([]byte, size-16), true
			all[fmt.Sprint("kind ", kind, ", a key of ", size)] = long
			all[fmt.Sprint("kind ", kind, ", an end of ", size)] = hi
			all[fmt.Sprint("kind ", kind, ", Open, an end of ", size-16)] = open
			long.Key, long.Value = nil, make([]byte, size+16)
			all[fmt.Sprint("kind ", kind, ", a value of ", size+16)] = long
		}
	}
	return all
}

// may tells whether an operation may be, by the chapter's words.
func may(o api.Op) bool {
	is := o.Kind >= 1 && o.Kind <= 11 && o.Table >= 0 && o.Table <= 3 && len(o.Key) <= 16 && len(o.Hi) <= 16 && len(o.Value) <= 32
	is = is && !(o.Open && len(o.Hi) != 0)
	is = is && !(o.Kind == 8 && o.N != 3 && o.N != 5)
	is = is && !(o.Kind == 11 && o.N != 0 && o.N != 1)
	return is && !(o.Kind == 7 && (o.N < 0 || o.N > 3))
}

// P15.1
func TestCheck(t *testing.T) {
	for what, o := range named(right()) {
		if e := txn.Check(o); e != api.OK {
			t.Errorf("%s: %d", what, e)
		}
	}
	for what, o := range named(wrong()) {
		if e := txn.Check(o); e != api.ErrArg {
			t.Errorf("%s: %d", what, e)
		}
	}
}

// P15.1: whatever goes together.
func TestCheckOfAll(t *testing.T) {
	is, not := 0, 0
	for _, kind := range append(odd, 7, 8, 9, 10, 13) {
		for _, table := range []int{math.MinInt, -1, 0, 3, 4, 1 << 32} {
			for _, n := range odd {
				for sizes := range 3 * 3 * 3 * 2 {
					o := api.Op{Kind: kind, Table: table, Key: make([]byte, []int{0, 16, 17}[sizes%3]), Hi: make([]byte, []int{0, 16, 17}[sizes/3%3]), Value: make([]byte, []int{0, 32, 33}[sizes/9%3]), Open: sizes/27 == 1, N: n}
					want := api.ErrArg
					if may(o) {
						want = api.OK
						is++
					} else {
						not++
					}
					if e := txn.Check(o); e != want {
						t.Fatalf("%v: %d", o, e)
					}
				}
			}
		}
	}
	if is == 0 || not == 0 {
		t.Error(is, not)
	}
}

// whole and part are locks.
func whole(owner, table, mode int) api.Lock {
	return api.Lock{Owner: owner, Whole: true, Span: api.Span{Table: table}, Mode: mode}
}
func part(owner int, x api.Span, mode int) api.Lock {
	return api.Lock{Owner: owner, Span: x, Mode: mode}
}

// point, upTo and from are spans.
func point(table int, key string) api.Span { return upTo(table, key, key+"\x00") }
func upTo(table int, lo, hi string) api.Span {
	return api.Span{Table: table, Lo: []byte(lo), Hi: []byte(hi)}
}
func from(table int, lo string) api.Span {
	return api.Span{Table: table, Lo: []byte(lo), Open: true}
}

// needs are an operation's locks, and its reads, by the chapter's words.
func needs(o api.Op, owner int) ([]api.Lock, []api.Span) {
	if !may(o) {
		return nil, nil
	}
	key := point(o.Table, string(o.Key))
	all := upTo(o.Table, string(o.Key), string(o.Hi))
	all.Open = o.Open
	switch o.Kind {
	case 1:
		return []api.Lock{whole(owner, o.Table, 1), part(owner, key, 3)}, []api.Span{key}
	case 2:
		return []api.Lock{whole(owner, o.Table, 2), part(owner, key, 5)}, nil
	case 3, 4:
		return []api.Lock{whole(owner, o.Table, 2), part(owner, key, 5)}, []api.Span{key}
	case 5:
		l := []api.Lock{whole(owner, o.Table, 1)}
		if o.Open || string(o.Key) < string(o.Hi) {
			l = append(l, part(owner, all, 3))
		}
		return l, []api.Span{all}
	case 8:
		return []api.Lock{whole(owner, o.Table, o.N)}, nil
	}
	return nil, nil
}

// P15.2
func TestLocksAndReads(t *testing.T) {
	full, end := strings.Repeat("k", 16), strings.Repeat("l", 16)
	for what, c := range named(map[string]struct {
		o     api.Op
		locks []api.Lock
		reads []api.Span
	}{
		"a get":              {one(api.KGet, "a", ""), []api.Lock{whole(1, 0, api.IS), part(1, point(0, "a"), api.S)}, []api.Span{point(0, "a")}},
		"a get of no bytes":  {of(3, one(api.KGet, "", "")), []api.Lock{whole(1, 3, api.IS), part(1, upTo(3, "", "\x00"), api.S)}, []api.Span{upTo(3, "", "\x00")}},
		"a get, with an end": {api.Op{Kind: api.KGet, Key: []byte("a"), Hi: []byte("z")}, []api.Lock{whole(1, 0, api.IS), part(1, point(0, "a"), api.S)}, []api.Span{point(0, "a")}},
		"a get, Open":        {api.Op{Kind: api.KGet, Key: []byte("a"), Open: true}, []api.Lock{whole(1, 0, api.IS), part(1, point(0, "a"), api.S)}, []api.Span{point(0, "a")}},
		"a put":              {one(api.KPut, "a", "v"), []api.Lock{whole(1, 0, api.IX), part(1, point(0, "a"), api.X)}, nil},
		"a put, Open":        {api.Op{Kind: api.KPut, Key: []byte("a"), Open: true}, []api.Lock{whole(1, 0, api.IX), part(1, point(0, "a"), api.X)}, nil},
		"an insert":          {of(2, one(api.KInsert, "b", "v")), []api.Lock{whole(1, 2, api.IX), part(1, point(2, "b"), api.X)}, []api.Span{point(2, "b")}},
		"a delete":           {one(api.KDelete, full, ""), []api.Lock{whole(1, 0, api.IX), part(1, point(0, full), api.X)}, []api.Span{point(0, full)}},
		"a scan":             {of(1, many("a", "c")), []api.Lock{whole(1, 1, api.IS), part(1, upTo(1, "a", "c"), api.S)}, []api.Span{upTo(1, "a", "c")}},
		"a scan to the end":  {of(1, many("a", "")), []api.Lock{whole(1, 1, api.IS), part(1, from(1, "a"), api.S)}, []api.Span{from(1, "a")}},
		"a scan of all":      {many("", ""), []api.Lock{whole(1, 0, api.IS), part(1, from(0, ""), api.S)}, []api.Span{from(0, "")}},
		"a scan, 16 bytes":   {many(full, end), []api.Lock{whole(1, 0, api.IS), part(1, upTo(0, full, end), api.S)}, []api.Span{upTo(0, full, end)}},
		"a scan of one":      {many("a", "a\x00"), []api.Lock{whole(1, 0, api.IS), part(1, point(0, "a"), api.S)}, []api.Span{point(0, "a")}},
		"a scan of none":     {many("c", "c"), []api.Lock{whole(1, 0, api.IS)}, []api.Span{upTo(0, "c", "c")}},
		"a scan, ends ahead": {of(2, many("c", "a")), []api.Lock{whole(1, 2, api.IS)}, []api.Span{upTo(2, "c", "a")}},
		"a lock of S":        {of(3, number(api.KLock, api.S)), []api.Lock{whole(1, 3, api.S)}, nil},
		"a lock of X":        {number(api.KLock, api.X), []api.Lock{whole(1, 0, api.X)}, nil},
		"a lock, with more":  {api.Op{Kind: api.KLock, Key: []byte("a"), Open: true, Value: []byte("v"), N: api.X}, []api.Lock{whole(1, 0, api.X)}, nil},
		"a mark":             {one(api.KMark, "a", ""), nil, nil},
		"back to a mark":     {one(api.KBack, "a", ""), nil, nil},
		"a commit":           {one(api.KCommit, "a", ""), nil, nil},
		"an abort":           {one(api.KAbort, "a", ""), nil, nil},
		"a begin":            {one(api.KBegin, "a", ""), nil, nil},
	}) {
		locks, reads := txn.Locks(c.o, 1), txn.Reads(c.o)
		if fmt.Sprint(locks) != fmt.Sprint(c.locks) || fmt.Sprint(reads) != fmt.Sprint(c.reads) {
			t.Errorf("%s: %v, %v", what, locks, reads)
		}
	}
}

// P15.2: of whatever operation, and owner, one that is no session, too.
func TestLocksAndReadsOfAny(t *testing.T) {
	all := slices.Concat(slices.Collect(maps.Values(right())), slices.Collect(maps.Values(wrong())))
	for _, o := range all {
		for _, owner := range odd {
			locks, reads := needs(o, owner)
			if l, r := txn.Locks(o, owner), txn.Reads(o); fmt.Sprint(l) != fmt.Sprint(locks) || fmt.Sprint(r) != fmt.Sprint(reads) {
				t.Fatalf("%v, %d: %v, %v", o, owner, l, r)
			}
			if !may(o) && (len(txn.Locks(o, owner)) != 0 || len(txn.Reads(o)) != 0) {
				t.Fatalf("%v, %d: there are some", o, owner)
			}
		}
	}
}

// P15.2: they are locks, and spans, that may be; each lock can be had, and has what is read in it.
func TestLocksMayBe(t *testing.T) {
	for what, o := range named(right()) {
		for owner := range 4 {
			var l api.Locks
			for _, x := range txn.Locks(o, owner) {
				more, e := lock.Ask(l, x)
				if e != api.OK {
					t.Fatalf("%s: %v: %d", what, x, e)
				}
				l = more
			}
			for _, x := range txn.Reads(o) {
				served := func(h api.Lock) bool { return !h.Whole && span.Covers(h.Span, x) || span.Empty(x) }
				if !span.Check(x) || !slices.ContainsFunc(l.Held, served) {
					t.Fatalf("%s: %v of %v", what, x, l)
				}
			}
		}
	}
}

// done is what Do answers of a store of a history, by the chapter's words.
func done(d api.Delta, h history, stamp int, o api.Op) (api.Delta, api.Reply) {
	if !delta.Check(d) || !may(o) {
		return d, api.Reply{Err: api.ErrArg}
	}
	v := h.at(stamp)
	v.do(d.Writes)
	_, has := v[o.Table][string(o.Key)]
	w := api.Write{Table: o.Table, Key: o.Key, Value: o.Value}
	var e api.Errno
	switch o.Kind {
	case 1:
		return d, v.get(o)
	case 5:
		return d, v.scan(o)
	case 3:
		if has {
			return d, api.Reply{Err: api.ErrHas}
		}
	case 4:
		if !has {
			return d, api.Reply{Err: api.ErrHasNot}
		}
		w = api.Write{Table: o.Table, Key: o.Key, Gone: true}
	case 6:
		d, e = delta.Mark(d)
	case 7:
		d, e = delta.Back(d, o.N)
	}
	if o.Kind >= 2 && o.Kind <= 4 {
		d, e = delta.Put(d, w)
	}
	return d, api.Reply{Err: e}
}

// does holds Do against what is wanted of it.
func does(t *testing.T, d api.Delta, s api.Store, stamp int, o api.Op, want api.Delta, told api.Reply) {
	t.Helper()
	if x, r := txn.Do(d, s, stamp, o); tell(x) != tell(want) || tellReply(r) != tellReply(told) {
		t.Fatalf("%v, at %d, %v: %v, %v, for %v, %v", d, stamp, o, x, r, want, told)
	}
}

// The chapter's example, and P15.3 by hand.
func TestExample(t *testing.T) {
	d, r := txn.Do(api.Delta{}, api.Store{}, 0, one(api.KPut, "a", "v"))
	if r.Err != api.OK || r.Found || len(r.Value) > 0 || len(r.Pairs) > 0 || tell(d) != tell(api.Delta{Writes: []api.Write{put(0, "a", "v")}}) {
		t.Errorf("%v, %v", d, r)
	}
	if _, r = txn.Do(d, api.Store{}, 0, one(api.KGet, "a", "")); r.Err != api.OK || !r.Found || string(r.Value) != "v" || len(r.Pairs) > 0 {
		t.Errorf("%v", r)
	}
}

// P15.3
func TestDo(t *testing.T) {
	h := some()
	s := h.store()
	yes := func(v string) api.Reply { return api.Reply{Found: true, Value: []byte(v)} }
	pairs := func(l ...string) api.Reply {
		var r api.Reply
		for i := 0; i < len(l); i += 2 {
			r.Pairs = append(r.Pairs, api.Pair{Key: []byte(l[i]), Value: []byte(l[i+1])})
		}
		return r
	}
	no := func(e api.Errno) api.Reply { return api.Reply{Err: e} }
	for what, c := range named(map[string]struct {
		writes []api.Write
		stamp  int
		o      api.Op
		more   []api.Write
		told   api.Reply
	}{
		"get: there":              {nil, 3, one(api.KGet, "a", "x"), nil, yes("3")},
		"get: as of 1":            {nil, 1, one(api.KGet, "a", ""), nil, yes("1")},
		"get: as of 2":            {nil, 2, one(api.KGet, "b", ""), nil, yes("1")},
		"get: as of 0":            {nil, 0, one(api.KGet, "a", ""), nil, no(api.OK)},
		"get: gone there":         {nil, 3, one(api.KGet, "b", ""), nil, no(api.OK)},
		"get: empty there":        {nil, 5, one(api.KGet, "b", ""), nil, yes("")},
		"get: of no bytes":        {nil, 5, one(api.KGet, "", ""), nil, yes("none")},
		"get: another table":      {nil, 3, of(1, one(api.KGet, "a", "")), nil, yes("other")},
		"get: not in that":        {nil, 3, of(3, one(api.KGet, "a", "")), nil, no(api.OK)},
		"get: written":            {[]api.Write{put(0, "a", "x")}, 3, one(api.KGet, "a", ""), nil, yes("x")},
		"get: written, alone":     {[]api.Write{put(0, "k", "x")}, 0, one(api.KGet, "k", ""), nil, yes("x")},
		"get: written, empty":     {[]api.Write{put(0, "a", "")}, 3, one(api.KGet, "a", ""), nil, yes("")},
		"get: written last":       {[]api.Write{put(0, "a", "x"), away(0, "a"), put(0, "a", "y")}, 3, one(api.KGet, "a", ""), nil, yes("y")},
		"get: gone, written":      {[]api.Write{put(0, "a", "x"), away(0, "a")}, 3, one(api.KGet, "a", ""), nil, no(api.OK)},
		"get: another written":    {[]api.Write{put(1, "a", "x"), away(0, "b")}, 3, one(api.KGet, "a", ""), nil, yes("3")},
		"put":                     {nil, 3, one(api.KPut, "a", "x"), []api.Write{put(0, "a", "x")}, no(api.OK)},
		"put: again, elsewhere":   {[]api.Write{put(0, "a", "x")}, 3, of(3, one(api.KPut, "a", "")), []api.Write{put(3, "a", "")}, no(api.OK)},
		"put: with all else":      {nil, 3, api.Op{Kind: api.KPut, Key: []byte("a"), Hi: []byte("b"), Value: []byte("x"), N: 7}, []api.Write{put(0, "a", "x")}, no(api.OK)},
		"insert: there":           {nil, 3, one(api.KInsert, "a", "x"), nil, no(api.ErrHas)},
		"insert: empty there":     {nil, 5, one(api.KInsert, "b", "x"), nil, no(api.ErrHas)},
		"insert: not yet there":   {nil, 2, one(api.KInsert, "c", "x"), []api.Write{put(0, "c", "x")}, no(api.OK)},
		"insert: gone there":      {nil, 3, one(api.KInsert, "b", "x"), []api.Write{put(0, "b", "x")}, no(api.OK)},
		"insert: no such key":     {nil, 3, one(api.KInsert, "k", ""), []api.Write{put(0, "k", "")}, no(api.OK)},
		"insert: written":         {[]api.Write{put(0, "k", "x")}, 3, one(api.KInsert, "k", "y"), nil, no(api.ErrHas)},
		"insert: written, empty":  {[]api.Write{put(0, "k", "")}, 3, one(api.KInsert, "k", "y"), nil, no(api.ErrHas)},
		"insert: gone, written":   {[]api.Write{away(0, "a")}, 3, one(api.KInsert, "a", "y"), []api.Write{put(0, "a", "y")}, no(api.OK)},
		"insert: another table":   {nil, 3, of(2, one(api.KInsert, "a", "y")), []api.Write{put(2, "a", "y")}, no(api.OK)},
		"delete: there":           {nil, 3, one(api.KDelete, "a", ""), []api.Write{away(0, "a")}, no(api.OK)},
		"delete: with a value":    {nil, 3, one(api.KDelete, "a", "x"), []api.Write{away(0, "a")}, no(api.OK)},
		"delete: empty there":     {nil, 5, one(api.KDelete, "b", ""), []api.Write{away(0, "b")}, no(api.OK)},
		"delete: gone there":      {nil, 3, one(api.KDelete, "b", ""), nil, no(api.ErrHasNot)},
		"delete: not yet there":   {nil, 2, one(api.KDelete, "c", ""), nil, no(api.ErrHasNot)},
		"delete: no such key":     {nil, 3, one(api.KDelete, "k", ""), nil, no(api.ErrHasNot)},
		"delete: written":         {[]api.Write{put(0, "k", "x")}, 3, one(api.KDelete, "k", ""), []api.Write{away(0, "k")}, no(api.OK)},
		"delete: gone, written":   {[]api.Write{away(0, "a")}, 3, one(api.KDelete, "a", ""), nil, no(api.ErrHasNot)},
		"delete: another table":   {nil, 3, of(2, one(api.KDelete, "a", "")), nil, no(api.ErrHasNot)},
		"scan: as of 1":           {nil, 1, many("", ""), nil, pairs("a", "1", "b", "1")},
		"scan: as of 3":           {nil, 4, many("", ""), nil, pairs("a", "3", "c", "3")},
		"scan: as of 5":           {nil, 5, many("", ""), nil, pairs("", "none", "aa", "5", "b", "", "c", "3")},
		"scan: up to":             {nil, 5, many("a", "c"), nil, pairs("aa", "5", "b", "")},
		"scan: from":              {nil, 5, many("b", ""), nil, pairs("b", "", "c", "3")},
		"scan: none":              {nil, 5, many("c", "c"), nil, no(api.OK)},
		"scan: ends ahead":        {nil, 5, many("c", "a"), nil, no(api.OK)},
		"scan: another table":     {nil, 5, of(3, many("", "")), nil, pairs("z", "5")},
		"scan: written":           {[]api.Write{put(0, "b", "x"), put(0, "a", "y"), put(0, "z", "")}, 3, many("", ""), nil, pairs("a", "y", "b", "x", "c", "3", "z", "")},
		"scan: written last":      {[]api.Write{put(0, "b", "x"), put(0, "b", "y"), away(0, "c"), away(0, "k")}, 3, many("", ""), nil, pairs("a", "3", "b", "y")},
		"scan: written, not in":   {[]api.Write{put(0, "a", "x"), put(0, "c", "y"), put(1, "b", "z")}, 1, many("b", "c"), nil, pairs("b", "1")},
		"scan: with all else":     {nil, 3, api.Op{Kind: api.KScan, Open: true, Value: []byte("x"), N: 7}, nil, pairs("a", "3", "c", "3")},
		"a lock":                  {nil, 3, number(api.KLock, api.X), nil, no(api.OK)},
		"a commit":                {[]api.Write{put(0, "k", "x")}, 3, one(api.KCommit, "a", "x"), nil, no(api.OK)},
		"an abort":                {[]api.Write{put(0, "k", "x")}, 3, one(api.KAbort, "a", "x"), nil, no(api.OK)},
		"a begin":                 {[]api.Write{put(0, "k", "x")}, 3, one(api.KBegin, "a", "x"), nil, no(api.OK)},
		"a lock, with all else":   {[]api.Write{put(0, "k", "x")}, 3, api.Op{Kind: api.KLock, Key: []byte("a"), Open: true, Value: []byte("x"), N: api.S}, nil, no(api.OK)},
		"a commit, with all else": {[]api.Write{put(0, "k", "x")}, 3, api.Op{Kind: api.KCommit, Key: []byte("a"), Open: true, Value: []byte("x"), N: 9}, nil, no(api.OK)},
		"an abort, with an end":   {[]api.Write{put(0, "k", "x")}, 3, api.Op{Kind: api.KAbort, Hi: []byte("z"), N: 9}, nil, no(api.OK)},
		"a begin, held":           {[]api.Write{put(0, "k", "x")}, 3, api.Op{Kind: api.KBegin, Open: true, N: 1}, nil, no(api.OK)},
		"put: 20":                 {times(19), 3, one(api.KPut, "a", "x"), []api.Write{put(0, "a", "x")}, no(api.OK)},
		"put: 21":                 {times(20), 3, one(api.KPut, "a", "x"), nil, no(api.ErrMarks)},
		"insert: 20":              {times(19), 3, one(api.KInsert, "k", "x"), []api.Write{put(0, "k", "x")}, no(api.OK)},
		"insert: 21":              {times(20), 3, one(api.KInsert, "k", "x"), nil, no(api.ErrMarks)},
		"insert: 21, and there":   {times(20), 3, one(api.KInsert, "a", "x"), nil, no(api.ErrHas)},
		"delete: 20":              {times(19), 3, one(api.KDelete, "k0", ""), []api.Write{away(0, "k0")}, no(api.OK)},
		"delete: 21":              {times(20), 3, one(api.KDelete, "k0", ""), nil, no(api.ErrMarks)},
		"delete: 21, and none":    {times(20), 3, one(api.KDelete, "k", ""), nil, no(api.ErrHasNot)},
		"get: of 20":              {times(20), 3, of(3, one(api.KGet, "k19", "")), nil, yes("v")},
		"back: no mark":           {times(2), 3, number(api.KBack, 0), nil, no(api.ErrArg)},
		"the greatest stamp":      {nil, math.MaxInt, one(api.KGet, "c", ""), nil, yes("3")},
		"the least stamp":         {nil, math.MinInt, many("", ""), nil, no(api.OK)},
		"a put at no stamp":       {nil, -1, one(api.KPut, "a", "x"), []api.Write{put(0, "a", "x")}, no(api.OK)},
		"16 and 32 bytes":         {nil, 3, one(api.KPut, strings.Repeat("k", 16), strings.Repeat("v", 32)), []api.Write{put(0, strings.Repeat("k", 16), strings.Repeat("v", 32))}, no(api.OK)},
		"a key with a byte 0":     {[]api.Write{put(0, "a\x00", "x")}, 3, one(api.KGet, "a\x00", ""), nil, yes("x")},
		"a key ahead of a byte 0": {[]api.Write{put(0, "a\x00", "x")}, 3, one(api.KGet, "a", ""), nil, yes("3")},
	}) {
		t.Run(what, func(t *testing.T) {
			d := api.Delta{Writes: c.writes}
			does(t, d, s, c.stamp, c.o, api.Delta{Writes: append(slices.Clone(c.writes), c.more...)}, c.told)
			x, r := done(d, h, c.stamp, c.o)
			does(t, d, s, c.stamp, c.o, x, r)
		})
	}
}

// P15.3: marks, and ways back to them.
func TestMarks(t *testing.T) {
	l := times(6)
	mark, back := number(api.KMark, 0), func(n int) api.Op { return number(api.KBack, n) }
	for what, c := range named(map[string]struct {
		size  int
		marks []int
		o     api.Op
		left  int
		then  []int
		e     api.Errno
	}{
		"a first mark":        {0, nil, mark, 0, []int{0}, api.OK},
		"a mark behind some":  {3, nil, mark, 3, []int{3}, api.OK},
		"a mark again":        {3, []int{1, 3}, mark, 3, []int{1, 3, 3}, api.OK},
		"a fourth":            {6, []int{1, 2, 3}, mark, 6, []int{1, 2, 3, 6}, api.OK},
		"a fifth":             {6, []int{1, 2, 3, 6}, mark, 6, []int{1, 2, 3, 6}, api.ErrMarks},
		"a mark, N 9":         {2, nil, number(api.KMark, 9), 2, []int{2}, api.OK},
		"back to the first":   {6, []int{2, 3, 5}, back(0), 2, []int{2}, api.OK},
		"back to the second":  {6, []int{2, 3, 5}, back(1), 3, []int{2, 3}, api.OK},
		"back to the last":    {6, []int{2, 3, 5}, back(2), 5, []int{2, 3, 5}, api.OK},
		"back to the fourth":  {6, []int{0, 0, 1, 4}, back(3), 4, []int{0, 0, 1, 4}, api.OK},
		"back to nothing":     {6, []int{0, 5}, back(0), 0, []int{0}, api.OK},
		"back, no such mark":  {6, []int{2, 3, 5}, back(3), 6, []int{2, 3, 5}, api.ErrArg},
		"back, no mark":       {6, nil, back(0), 6, nil, api.ErrArg},
		"back, not to a mark": {6, []int{1, 2, 3, 4}, back(4), 6, []int{1, 2, 3, 4}, api.ErrArg},
	}) {
		t.Run(what, func(t *testing.T) {
			does(t, api.Delta{Writes: l[:c.size], Marks: c.marks}, some().store(), 3, c.o, api.Delta{Writes: l[:c.left], Marks: c.then}, api.Reply{Err: c.e})
		})
	}
}

// wrongDeltas and wrongStores are some that may not be.
func wrongDeltas() map[string]api.Delta {
	return map[string]api.Delta{
		"a table":         {Writes: []api.Write{put(0, "a", "v"), put(4, "a", "v")}, Marks: []int{1}},
		"21 writes":       {Writes: times(21)},
		"5 marks":         {Writes: times(2), Marks: []int{0, 0, 1, 1, 2}},
		"a mark behind":   {Writes: times(2), Marks: []int{3}},
		"marks that fall": {Writes: times(3), Marks: []int{2, 1}},
		"a long value":    {Writes: []api.Write{put(0, "a", strings.Repeat("v", 33))}},
		"gone, a value":   {Writes: []api.Write{{Key: []byte("a"), Gone: true, Value: []byte("v")}}},
	}
}
func wrongStores() map[string]api.Store {
	leaf := func(keys ...string) api.Node {
		var n api.Node
		for _, k := range keys {
			n.Keys, n.Chains = append(n.Keys, []byte(k)), append(n.Chains, []api.Version{{Stamp: 1, Value: []byte("v")}})
		}
		return n
	}
	all := map[string]api.Store{}
	for what, n := range map[string]api.Node{
		"keys that fall": leaf("b", "a"),
		"four keys":      leaf("a", "b", "c", "d"),
		"no versions":    {Keys: [][]byte{[]byte("a")}, Chains: [][]api.Version{nil}},
		"one child":      {Keys: leaf("a").Keys, Chains: leaf("a").Chains, Kids: []api.Node{leaf("0")}},
		"a long key":     leaf(strings.Repeat("k", 17)),
	} {
		for table := range 4 {
			s := history{{1, []api.Write{put(0, "a", "v"), put(1, "a", "v"), put(2, "a", "v"), put(3, "a", "v")}}}.store()
			s.Tables[table] = n
			all[fmt.Sprint(what, " in ", table)] = s
		}
	}
	return all
}

// P15.3: ErrArg, and d, of a store, a delta or an operation that may not be; whatever the others are.
func TestDoOfWrong(t *testing.T) {
	s := some().store()
	d := api.Delta{Writes: times(3), Marks: []int{0, 2}}
	no := api.Reply{Err: api.ErrArg}
	for _, o := range named(wrong()) {
		does(t, d, s, 3, o, d, no)
	}
	for _, x := range named(wrongDeltas()) {
		for _, o := range named(right()) {
			does(t, x, s, 3, o, x, no)
		}
	}
	for _, x := range named(wrongStores()) {
		for _, o := range named(right()) {
			does(t, d, x, 3, o, d, no)
		}
		for _, y := range named(wrongDeltas()) {
			does(t, y, x, 3, one(api.KInsert, "a", "v"), y, no)
			does(t, y, x, 3, number(0, 0), y, no)
		}
	}
	// Of a store that is full, or has as many versions as there may be of a key, all is told.
	var full []api.Write
	for i := range 60 {
		full = append(full, put(2, "k"+strconv.Itoa(i), "v"))
	}
	s = history{{math.MaxInt32, full}}.store()
	does(t, d, s, math.MaxInt32, of(2, one(api.KInsert, "new", "v")), api.Delta{Writes: append(times(3), put(2, "new", "v")), Marks: d.Marks}, api.Reply{})
	if _, r := txn.Do(api.Delta{}, s, math.MaxInt32, of(2, many("", ""))); len(r.Pairs) != 60 {
		t.Errorf("%d pairs", len(r.Pairs))
	}
}

// P15.3: of all of up to three writes, with marks, all operations are done as the chapter's words have it.
func TestDoOfAll(t *testing.T) {
	h := some()
	s := h.store()
	writes := []api.Write{put(0, "a", "v"), put(0, "b", ""), away(0, "a"), away(0, "c"), put(1, "a", "w")}
	var ops []api.Op
	for _, kind := range []int{api.KGet, api.KPut, api.KInsert, api.KDelete} {
		for _, key := range []string{"a", "b", "c"} {
			ops = append(ops, one(kind, key, "new"))
		}
		ops = append(ops, of(1, one(kind, "a", "new")))
	}
	ops = append(ops, many("", ""), many("a", "b"), many("b", ""), of(1, many("", "b")), number(api.KMark, 0), number(api.KBack, 0), number(api.KBack, 1), number(api.KPut, 0))
	for _, o := range []api.Op{number(api.KMark, 9), number(api.KLock, api.S), number(api.KCommit, 0), number(api.KAbort, 0), number(api.KBegin, 1)} {
		o.Key, o.Open, o.Value = []byte("a"), true, []byte("new")
		ops = append(ops, o)
	}
	var lists [][]api.Write
	last := [][]api.Write{nil}
	for range 4 {
		lists = append(lists, last...)
		var more [][]api.Write
		for _, l := range last {
			for _, w := range writes {
				more = append(more, append(slices.Clone(l), w))
			}
		}
		last = more
	}
	for i, l := range lists {
		marks := [][]int{nil, {0}, {len(l) / 2, len(l)}, {0, 0, len(l) / 2, len(l)}}[i%4]
		for _, stamp := range []int{0, 1, 3, 5, 9} {
			for _, o := range ops {
				d := api.Delta{Writes: l, Marks: marks}
				x, r := done(d, h, stamp, o)
				does(t, d, s, stamp, o, x, r)
			}
		}
	}
}

// chance is a run of numbers, the same ones each time.
type chance uint32

func (c *chance) below(n int) int {
	*c = *c*1664525 + 1013904223
	return int(*c>>16) % n
}

// seen is what a transaction sees, and saw at its marks, with how many writes it had by then.
type seen struct {
	view  view
	size  int
	marks []seen
}

// turn is what a transaction is told of an operation, and what it sees behind it, by P15.4.
func (v seen) turn(o api.Op) (seen, api.Reply) {
	_, has := v.view[o.Table][string(o.Key)]
	switch {
	case !may(o) || o.Kind == api.KBack && o.N >= len(v.marks):
		return v, api.Reply{Err: api.ErrArg}
	case o.Kind == api.KGet:
		return v, v.view.get(o)
	case o.Kind == api.KScan:
		return v, v.view.scan(o)
	case o.Kind == api.KInsert && has:
		return v, api.Reply{Err: api.ErrHas}
	case o.Kind == api.KDelete && !has:
		return v, api.Reply{Err: api.ErrHasNot}
	case o.Kind <= api.KDelete && v.size == 20 || o.Kind == api.KMark && len(v.marks) == 4:
		return v, api.Reply{Err: api.ErrMarks}
	case o.Kind <= api.KDelete:
		w := put(o.Table, string(o.Key), string(o.Value))
		w.Gone = o.Kind == api.KDelete
		v.view = v.view.clone()
		v.view.do([]api.Write{w})
		v.size++
	case o.Kind == api.KMark:
		v.marks = append(slices.Clip(v.marks), seen{view: v.view, size: v.size})
	case o.Kind == api.KBack:
		m := v.marks[o.N]
		return seen{m.view, m.size, v.marks[:o.N+1]}, api.Reply{}
	}
	return v, api.Reply{}
}

// P15.4: a transaction is told what it sees, whatever others commit, or a vacuum takes away, behind its stamp.
func TestSees(t *testing.T) {
	told := map[api.Errno]int{}
	for seed := range 1500 {
		c := chance(seed*7919 + 1)
		keys := []string{"", "a", "aa", "b", "c"}[:2+c.below(4)]
		tables := 1 + c.below(4)
		var h history
		for stamp := range 6 {
			var l []api.Write
			for _, i := range []int{0, 1, 2, 3, 4}[:c.below(len(keys)+1)] {
				w := put(c.below(tables), keys[i%len(keys)], strconv.Itoa(stamp))
				if c.below(3) == 0 {
					w = away(w.Table, string(w.Key))
				}
				l = append(l, w)
			}
			h = append(h, commit{stamp*2 + 1, l})
		}
		stamp := c.below(13)
		s, v := h.store(), seen{view: h.at(stamp)}
		var d api.Delta
		clock := 20
		for step := range 60 {
			o := api.Op{Kind: 1 + c.below(11), Table: c.below(tables), Key: []byte(keys[c.below(len(keys))]), Value: []byte("own " + strconv.Itoa(step)), N: c.below(4)}
			if o.Kind == api.KScan {
				o.Hi, o.Open = nil, true
				if c.below(2) == 0 {
					o.Hi, o.Open = []byte(keys[c.below(len(keys))]), false
				}
			}
			if o.Kind == api.KBack && c.below(3) > 0 {
				o.Kind = api.KPut
			}
			now, want := v.turn(o)
			x, r := txn.Do(d, s, stamp, o)
			if tellReply(r) != tellReply(want) {
				t.Fatalf("seed %d, step %d: %v: %v, for %v", seed, step, o, r, want)
			}
			if r.Err != api.OK && tell(x) != tell(d) {
				t.Fatalf("seed %d, step %d: %v: an error, and %v, that was %v", seed, step, o, x, d)
			}
			told[r.Err]++
			d, v = x, now
			for table := range 4 {
				all := api.Op{Kind: api.KScan, Table: table, Open: true}
				if _, r := txn.Do(d, s, stamp, all); tellReply(r) != tellReply(v.view.scan(all)) {
					t.Fatalf("seed %d, behind step %d: %v, for %v", seed, step, r, v.view[table])
				}
			}
			if step%10 == 9 {
				clock++
				more, e := store.Install(s, clock, put(c.below(4), keys[c.below(len(keys))], "another"), away(c.below(4), "zz"))
				if e != api.OK {
					t.Fatal(e)
				}
				s = store.Vacuum(more, stamp)
			}
		}
	}
	for _, e := range []api.Errno{api.OK, api.ErrArg, api.ErrMarks, api.ErrHas, api.ErrHasNot} {
		if told[e] < 100 {
			t.Errorf("%d was told %d times", e, told[e])
		}
	}
}

// R1: all numbers, in whatever place.
func TestOddNumbers(t *testing.T) {
	s := some().store()
	for _, kind := range odd {
		for _, table := range odd {
			for _, n := range odd {
				o := api.Op{Kind: kind, Table: table, Key: []byte("a"), N: n}
				locks, reads := needs(o, n)
				if l, r := txn.Locks(o, n), txn.Reads(o); fmt.Sprint(l) != fmt.Sprint(locks) || fmt.Sprint(r) != fmt.Sprint(reads) {
					t.Fatalf("%v: %v, %v", o, l, r)
				}
				d := api.Delta{Writes: times(2), Marks: []int{1}}
				x, r := done(d, some(), table, o)
				does(t, d, s, table, o, x, r)
				d.Marks[0] = n
				x, r = done(d, some(), kind, o)
				does(t, d, s, kind, o, x, r)
			}
		}
	}
}

// R1: long lists and texts, and tables that are long, or deep, or hold themselves.
func TestLongAndDeep(t *testing.T) {
	long := make([]byte, 1<<20)
	for _, o := range []api.Op{{Kind: 1, Key: long}, {Kind: 5, Hi: long}, {Kind: 5, Hi: long, Open: true}, {Kind: 2, Value: long}, {Kind: 12, Key: long, Hi: long, Value: long}} {
		d, r := txn.Do(api.Delta{}, api.Store{}, 0, o)
		if txn.Check(o) != api.ErrArg || len(txn.Locks(o, 0)) > 0 || len(txn.Reads(o)) > 0 || tell(d) != tell(api.Delta{}) || tellReply(r) != tellReply(api.Reply{Err: api.ErrArg}) {
			t.Errorf("%d: %v", o.Kind, r.Err)
		}
	}
	d := api.Delta{Writes: slices.Repeat([]api.Write{put(0, "a", "v")}, 1<<20), Marks: make([]int, 1<<20)}
	if x, r := txn.Do(d, api.Store{}, 0, one(api.KGet, "a", "")); r.Err != api.ErrArg || r.Found || len(x.Writes) != 1<<20 || len(x.Marks) != 1<<20 || string(x.Writes[1<<20-1].Value) != "v" {
		t.Errorf("many writes: %v, %d, %d", r, len(x.Writes), len(x.Marks))
	}
	row, line, ring := api.Node{}, api.Node{}, api.Node{Keys: [][]byte{[]byte("b")}, Chains: [][]api.Version{{{Stamp: 1}}}, Kids: make([]api.Node, 2)}
	for i := range 1 << 15 {
		row.Keys, row.Chains = append(row.Keys, []byte(strconv.Itoa(1<<20+i))), append(row.Chains, []api.Version{{Stamp: 1}})
		line = api.Node{Keys: ring.Keys, Chains: ring.Chains, Kids: []api.Node{line, line}}
	}
	ring.Kids[0], ring.Kids[1] = ring, ring
	for i, n := range []api.Node{row, line, ring} {
		for table := range 4 {
			var s api.Store
			s.Tables[table] = n
			for kind := range 13 {
				o := api.Op{Kind: kind, Table: table, Key: []byte("b")}
				if x, r := txn.Do(api.Delta{Writes: times(2)}, s, 1, o); tellReply(r) != tellReply(api.Reply{Err: api.ErrArg}) || len(x.Writes) != 2 {
					t.Errorf("%d, %d, %d: %v, %v", i, table, kind, x, r)
				}
			}
		}
	}
}

// ask is what to call with.
type ask struct {
	D     api.Delta
	S     api.Store
	O     api.Op
	Stamp int
	Owner int
}

// answers are what all calls tell.
func (a ask) answers() map[string]any {
	type did struct {
		D api.Delta
		R api.Reply
	}
	d, r := txn.Do(a.D, a.S, a.Stamp, a.O)
	return map[string]any{
		"Check": txn.Check(a.O),
		"Locks": txn.Locks(a.O, a.Owner),
		"Reads": txn.Reads(a.O),
		"Do":    did{d, r},
	}
}

// asks are deltas and stores, that may be, and that may not, with operations.
func asks() []ask {
	deltas := []api.Delta{{}, {Writes: []api.Write{put(0, "a", "own"), away(0, "c"), put(0, "x", ""), put(2, "a", "own")}, Marks: []int{0, 1, 3}}, {Writes: times(20), Marks: []int{0, 1, 3, 20}}, wrongDeltas()["a table"], wrongDeltas()["marks that fall"]}
	stores := []api.Store{{}, some().store(), wrongStores()["four keys in 0"]}
	ops := []api.Op{{Kind: 12, Key: []byte("a")}, {Kind: api.KScan, Key: []byte("a"), Hi: []byte("b"), Open: true}, many("", ""), many("a", "c"), many("c", "a"), number(api.KLock, api.X), number(api.KBack, 1), number(api.KBack, 3), number(api.KMark, 0)}
	for _, kind := range []int{api.KGet, api.KPut, api.KInsert, api.KDelete} {
		ops = append(ops, one(kind, "a", "new"), one(kind, "c", "new"), one(kind, "n", "new"))
	}
	var all []ask
	for i, d := range deltas {
		for j, s := range stores {
			for k, o := range ops {
				all = append(all, ask{d, s, o, []int{0, 3, 5}[(i+j+k)%3], k % 5}, ask{d, s, of(k%4, o), 3, 1})
			}
		}
	}
	return all
}

// lists hands over all lists in a value, and in their spare room.
func lists(v reflect.Value, do func(l reflect.Value)) {
	switch v.Kind() {
	case reflect.Interface:
		lists(v.Elem(), do)
	case reflect.Struct:
		for i := range v.NumField() {
			lists(v.Field(i), do)
		}
	case reflect.Array:
		for i := range v.Len() {
			lists(v.Index(i), do)
		}
	case reflect.Slice:
		if v.Cap() > 0 {
			l := v.Slice3(0, v.Cap(), v.Cap())
			do(l)
			for i := range l.Len() {
				lists(l.Index(i), do)
			}
		}
	}
}

// room is the memory of a list, its spare room in it; rooms are those of all lists in a value.
type room struct{ from, to uintptr }

func rooms(x any) []room {
	var all []room
	lists(reflect.ValueOf(x), func(l reflect.Value) {
		all = append(all, room{l.Pointer(), l.Pointer() + uintptr(l.Len())*l.Type().Elem().Size()})
	})
	return all
}

// apart tells whether no room reaches into another one's.
func apart(all ...[]room) bool {
	one := slices.Concat(all...)
	slices.SortFunc(one, func(a, b room) int { return int(a.from) - int(b.from) })
	for i := 1; i < len(one); i++ {
		if one[i].from < one[i-1].to {
			return false
		}
	}
	return true
}

// all is all that is in a value, the lists' spare room in it.
func all(x any) string {
	var b strings.Builder
	fmt.Fprintf(&b, "%v\n", x)
	lists(reflect.ValueOf(x), func(l reflect.Value) { fmt.Fprintf(&b, "%v\n", l) })
	return b.String()
}

// spoil overwrites all lists in a value, and their spare room, with other elements.
func spoil(x any) {
	var all []reflect.Value
	lists(reflect.ValueOf(x), func(l reflect.Value) { all = append(all, l) })
	for _, l := range all {
		for i := range l.Len() {
			if b, is := l.Index(i).Addr().Interface().(*byte); is {
				*b += 101
				continue
			}
			l.Index(i).Set(spoilt(l.Type().Elem()))
		}
	}
}

// spoilt is an element that stands in none of the test's lists.
func spoilt(t reflect.Type) reflect.Value {
	for _, x := range []any{byte('z'), 77, []byte("spoilt"), []api.Version{{Stamp: 77}}, api.Version{Stamp: -7}, api.Node{Keys: [][]byte{[]byte("spoilt")}}, put(-7, "spoilt", ""), api.Pair{Key: []byte("spoilt")}, from(-7, "spoilt"), whole(-7, -7, -7)} {
		if reflect.TypeOf(x) == t {
			return reflect.ValueOf(x)
		}
	}
	panic("spoilt: " + t.String())
}

// twin is what there is to call with, in memory of its own; with spare room, in which something stands, in each list.
func twin(a ask, spare bool) ask {
	v := reflect.New(reflect.TypeOf(a)).Elem()
	v.Set(reflect.ValueOf(a))
	remake(v, spare)
	return v.Interface().(ask)
}
func remake(v reflect.Value, spare bool) {
	switch v.Kind() {
	case reflect.Struct:
		for i := range v.NumField() {
			remake(v.Field(i), spare)
		}
	case reflect.Array:
		for i := range v.Len() {
			remake(v.Index(i), spare)
		}
	case reflect.Slice:
		size, more := v.Len(), 0
		if spare {
			more = 2
		}
		own := reflect.MakeSlice(v.Type(), size, size+more)
		reflect.Copy(own, v)
		for i := range size {
			remake(own.Index(i), spare)
		}
		for i := range more {
			x := own.Slice(0, size+more).Index(size + i)
			x.Set(spoilt(x.Type()))
			remake(x, false)
		}
		v.Set(own)
	}
}

// plain is a value in words, to which it is nothing whether an empty list is nil.
func plain(x any) string { return fmt.Sprintf("%v", x) }

// R3, R4: nothing is written into what is handed in, or its spare room, by a call, or by who has its answers.
func TestArgumentsStay(t *testing.T) {
	for _, a := range asks() {
		own := twin(a, true)
		was := all(own)
		for _, x := range own.answers() {
			spoil(x)
		}
		if all(own) != was {
			t.Fatalf("%v: what was handed in is changed", a)
		}
	}
}

// R4: what is answered stays, whatever becomes of what was handed in.
func TestAnswersStay(t *testing.T) {
	for _, a := range asks() {
		own := twin(a, true)
		got := own.answers()
		spoil(own)
		for call, want := range a.answers() {
			if plain(got[call]) != plain(want) {
				t.Fatalf("%s, %v: %v for %v", call, a, got[call], want)
			}
		}
	}
}

// R4: no two lists of one answer share memory, nor do an answer's and an argument's, nor two answers'.
func TestListsApart(t *testing.T) {
	for _, a := range asks() {
		own := twin(a, true)
		handed := rooms(own)
		first, second := own.answers(), own.answers()
		for call, x := range first {
			if !apart(rooms(x), handed, rooms(second[call])) {
				t.Fatalf("%s, %v: memory is shared", call, a)
			}
		}
		// Memory that nobody has any more may be another one's.
		runtime.KeepAlive([]any{own, first, second})
	}
}

// R4: nor do they when it was shared in what was handed in.
func TestSharedArguments(t *testing.T) {
	text := []byte("abcdefghijklmno")
	versions := []api.Version{{Stamp: 1, Value: text}, {Stamp: 2, Value: text[3:7]}, {Stamp: 3, Value: text[:2]}}
	n := api.Node{Keys: [][]byte{text[:1], text[1:2], text[2:9]}, Chains: [][]api.Version{versions, versions, versions[1:]}}
	writes := []api.Write{{Key: text[:1], Value: text[:9]}, {Table: 1, Key: text[:1], Value: text[:1]}, {Key: text[2:3], Value: text}, {Table: 4, Key: text}}
	for kind := range 13 {
		for size := range len(writes) + 1 {
			for _, key := range [][]byte{text[:1], text[1:2], text[3:]} {
				a := ask{api.Delta{Writes: writes[:size], Marks: []int{0, 0}}, api.Store{Tables: [4]api.Node{n, n, n, n}}, api.Op{Kind: kind, Table: size % 2, Key: key, Hi: text[3:5], Value: text[1:], N: kind % 3 % 2}, 2, 1}
				was := all(a) + all(text)
				handed := rooms(a)
				for call, x := range a.answers() {
					got := rooms(x)
					if !apart(got) {
						t.Fatalf("%s, %v: memory is shared", call, a)
					}
					for _, r := range handed {
						if !apart(got, []room{r}) {
							t.Fatalf("%s, %v: memory is shared with an argument", call, a)
						}
					}
					spoil(x)
					if all(a)+all(text) != was {
						t.Fatalf("%s, %v: what was handed in is changed", call, a)
					}
				}
				runtime.KeepAlive(a)
			}
		}
	}
}

// R5: spare room, what stands in it, and whether an empty list is nil, is nothing to an answer; nor is what was asked ahead, or is asked beside.
func TestNothingElseMatters(t *testing.T) {
	var first []map[string]any
	asked := asks()
	for _, a := range asked {
		first = append(first, a.answers())
	}
	end := make(chan bool)
	for _, spare := range []bool{false, true} {
		go func() {
			for i, a := range slices.Backward(asked) {
				for call, x := range twin(a, spare).answers() {
					if plain(x) != plain(first[i][call]) {
						t.Errorf("%s, %v: %v, ahead of it %v", call, a, x, first[i][call])
					}
				}
			}
			end <- true
		}()
	}
	<-end
	<-end
	for kind := range 13 {
		filled := ask{D: api.Delta{Writes: []api.Write{{Key: []byte{}, Value: []byte{}}}, Marks: []int{}}, O: api.Op{Kind: kind, Key: []byte{}, Hi: []byte{}, Open: true, Value: []byte{}}}
		bare := ask{D: api.Delta{Writes: []api.Write{{}}}, O: api.Op{Kind: kind, Open: true}}
		for call, x := range filled.answers() {
			if y := bare.answers()[call]; plain(x) != plain(y) {
				t.Errorf("%s: %v, %v", call, x, y)
			}
		}
	}
}
