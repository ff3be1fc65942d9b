package hand_test

import (
	"bytes"
	"fmt"
	"maps"
	"math"
	"reflect"
	"runtime"
	"slices"
	"strconv"
	"strings"
	"testing"

	"banksman/api"
	"banksman/hand"
	"banksman/lock"
	"banksman/mode"
	"banksman/span"
	"banksman/txn"
	"banksman/wait"
)

// names are the modes' words, each with its number.
var names = map[string]int{"IS": api.IS, "IX": api.IX, "S": api.S, "SIX": api.SIX, "X": api.X}

// one is a lock as its owner, its mode, and its table, with, unless it is Whole, a key (0a), two ends (0ac), or one and no other (0a-).
func one(word string) api.Lock {
	part := strings.Split(word, ":")
	owner, _ := strconv.Atoi(part[0])
	table, ends := int(part[2][0]-'0'), part[2][1:]
	x := api.Lock{Owner: owner, Mode: names[part[1]], Span: api.Span{Table: table}}
	switch {
	case ends == "":
		x.Whole = true
	case len(ends) == 1:
		x.Span = span.Point(table, []byte(ends))
	case ends[1] == '-':
		x.Span.Lo, x.Span.Open = []byte(ends[:1]), true
	default:
		x.Span.Lo, x.Span.Hi = []byte(ends[:1]), []byte(ends[1:])
	}
	return x
}

// list are locks, each as one has it; locks are those held, and, behind a stroke, those waited for.
func list(words string) []api.Lock {
	var l []api.Lock
	for _, w := range strings.Fields(words) {
		l = append(l, one(w))
	}
	return l
}
func locks(words string) api.Locks {
	held, queue, _ := strings.Cut(words, "|")
	return api.Locks{Held: list(held), Queue: list(queue)}
}

// said is what there is to say of some locks; whether an empty list is nil is nothing to it.
func said(l ...api.Lock) string {
	var b []byte
	for _, x := range l {
		b = fmt.Appendf(b, "%d %d %v %d %q %q %v, ", x.Owner, x.Mode, x.Whole, x.Span.Table, x.Span.Lo, x.Span.Hi, x.Span.Open)
	}
	return string(b)
}

// tell is what there is to say of locks.
func tell(l api.Locks) string { return said(l.Held...) + "| " + said(l.Queue...) }

// kinds are the operations' words, each with its number.
var kinds = map[string]int{"get": api.KGet, "put": api.KPut, "insert": api.KInsert, "delete": api.KDelete, "scan": api.KScan, "mark": api.KMark, "back": api.KBack, "lock": api.KLock, "commit": api.KCommit, "abort": api.KAbort, "begin": api.KBegin, "crash": api.KCrash}

// op is an operation as its kind, and its table, with a key (0a), two ends (0ac), or one and no other (0a-); of a lock with the mode behind (lock 0 X).
func op(words string) api.Op {
	part := strings.Fields(words)
	o := api.Op{Kind: kinds[part[0]]}
	if len(part) > 1 {
		o.Table = int(part[1][0] - '0')
		key, hi := part[1][1:], ""
		if len(key) > 1 {
			key, hi = key[:1], key[1:]
		}
		if o.Open = hi == "-"; o.Open {
			hi = ""
		}
		o.Key, o.Hi = []byte(key), []byte(hi)
	}
	if len(part) > 2 {
		o.N = names[part[2]]
	}
	return o
}

// ops are operations of a text, with commas between.
func ops(words string) []api.Op {
	var l []api.Op
	for _, w := range strings.Split(words, ",") {
		l = append(l, op(w))
	}
	return l
}

// writes are those of a text, each as its table and its key.
func writes(words string) []api.Write {
	var l []api.Write
	for _, w := range strings.Fields(words) {
		l = append(l, api.Write{Table: int(w[0] - '0'), Key: []byte(w[1:])})
	}
	return l
}

// named are all of a map, in its names' order.
func named[T any](m map[string]T) func(yield func(string, T) bool) {
	return func(yield func(string, T) bool) {
		for _, k := range slices.Sorted(maps.Keys(m)) {
			if !yield(k, m[k]) {
				return
			}
		}
	}
}

// odd are numbers, that a table, an owner or a stamp may be, and others: those about the limits, those that look like one cut short, and the ends.
var odd = []int{math.MinInt, math.MinInt + 1, -1 << 32, math.MinInt32, -256, -4, -1, 0, 1, 2, 3, 4, 5, 11, 12, 256, 257, math.MaxInt32, math.MaxInt32 + 1, 1 << 32, 1<<32 + 1, 1<<62 + 2, math.MaxInt}

// filled are locks of so many in all, that may be, with some waited for (0 to 3); none of table 0, and none of whole tables.
func filled(many, waiting int) api.Locks {
	l := locks("0:X:1a 0:X:1b 0:X:1c")
	for i := range many - waiting - 3 {
		l.Held = append(l.Held, api.Lock{Owner: i % 4, Span: span.Point(2+i%2, []byte{byte(i)}), Mode: api.S})
	}
	l.Queue = list("1:S:1a 2:X:1b 3:S:1c")[:waiting]
	return l
}

// with are locks with more held ahead of them.
func with(words string, l api.Locks) api.Locks {
	l.Held = append(list(words), l.Held...)
	return l
}

// held is what P16.1 asks, word by word.
func held(l api.Locks, owner int, o api.Op) (api.Locks, api.Errno) {
	for _, x := range txn.Locks(o, owner) {
		m, e := lock.Ask(l, x)
		l = m
		if e != api.OK {
			return l, e
		}
	}
	return l, api.OK
}

// free is what P16.2 asks, word by word.
func free(l api.Locks, owner int, w []api.Write) bool {
	is := lock.Check(l)
	for _, x := range w {
		for _, y := range l.Held {
			table := api.Lock{Owner: owner, Whole: true, Span: api.Span{Table: x.Table}, Mode: api.IX}
			key := api.Lock{Owner: owner, Span: span.Point(x.Table, x.Key), Mode: api.X}
			is = is && !lock.Clash(y, table) && !lock.Clash(y, key)
		}
	}
	return is
}

// broken is what P16.3 asks, word by word.
func broken(l api.Locks, stamps [4]int) (api.Locks, []int) {
	var gone []int
	for {
		v, is := wait.Victim(wait.Edges(l), stamps)
		if !is {
			return l, gone
		}
		l, _ = lock.Drop(l, v)
		gone = append(gone, v)
	}
}

// P16.1
func TestHold(t *testing.T) {
	for what, c := range named(map[string]struct {
		l     string
		owner int
		o     string
		want  string
		e     api.Errno
	}{
		"a get":                  {"", 0, "get 0a", "0:IS:0 0:S:0a", api.OK},
		"a put":                  {"", 1, "put 1b", "1:IX:1 1:X:1b", api.OK},
		"an insert":              {"", 2, "insert 2c", "2:IX:2 2:X:2c", api.OK},
		"a delete":               {"", 3, "delete 3d", "3:IX:3 3:X:3d", api.OK},
		"a scan":                 {"", 0, "scan 0ac", "0:IS:0 0:S:0ac", api.OK},
		"a scan to the end":      {"", 0, "scan 0a-", "0:IS:0 0:S:0a-", api.OK},
		"a scan of nothing":      {"", 0, "scan 0ca", "0:IS:0", api.OK},
		"a lock, S":              {"", 0, "lock 0 S", "0:S:0", api.OK},
		"a lock, X":              {"", 3, "lock 2 X", "3:X:2", api.OK},
		"a mark":                 {"", 0, "mark", "", api.OK},
		"back":                   {"0:X:0|1:S:0", 0, "back", "0:X:0|1:S:0", api.OK},
		"a commit":               {"0:X:0|1:S:0", 0, "commit", "0:X:0|1:S:0", api.OK},
		"an abort":               {"0:X:0|1:S:0", 1, "abort", "0:X:0|1:S:0", api.OK},
		"a begin":                {"0:X:0|1:S:0", 2, "begin", "0:X:0|1:S:0", api.OK},
		"one more":               {"1:S:0a", 0, "get 0a", "1:S:0a 0:IS:0 0:S:0a", api.OK},
		"of another table":       {"1:X:0|2:S:0", 0, "put 1a", "1:X:0 0:IX:1 0:X:1a|2:S:0", api.OK},
		"of another key":         {"1:IX:0 1:X:0a", 0, "put 0b", "1:IX:0 1:X:0a 0:IX:0 0:X:0b", api.OK},
		"again":                  {"0:IS:0 0:S:0a", 0, "get 0a", "0:IS:0 0:S:0a", api.OK},
		"again, turned":          {"0:X:0a 0:IX:0", 0, "put 0a", "0:X:0a 0:IX:0", api.OK},
		"a get of what it put":   {"0:IX:0 0:X:0a", 0, "get 0a", "0:IX:0 0:X:0a", api.OK},
		"a put of what it got":   {"0:IS:0 0:S:0a 1:IS:0", 0, "put 0a", "0:IX:0 0:S:0a 1:IS:0 0:X:0a", api.OK},
		"a get in a scan":        {"0:IS:0 0:S:0ac", 0, "get 0b", "0:IS:0 0:S:0ac", api.OK},
		"a get behind a scan":    {"0:IS:0 0:S:0ac", 0, "get 0c", "0:IS:0 0:S:0ac 0:S:0c", api.OK},
		"a get under S":          {"0:S:0", 0, "get 0a", "0:S:0", api.OK},
		"a put under S":          {"0:S:0", 0, "put 0a", "0:SIX:0 0:X:0a", api.OK},
		"a put under X":          {"0:X:0", 0, "put 0a", "0:X:0", api.OK},
		"a lock behind a put":    {"0:IX:0 0:X:0a", 0, "lock 0 S", "0:SIX:0 0:X:0a", api.OK},
		"part of a table alone":  {"0:S:0a", 0, "get 0a", "0:S:0a 0:IS:0", api.OK},
		"two that get":           {"0:IS:0 0:S:0a", 1, "get 0a", "0:IS:0 0:S:0a 1:IS:0 1:S:0a", api.OK},
		"the table waits":        {"0:X:0", 1, "get 0a", "0:X:0|1:IS:0", api.ErrWait},
		"the table waits, a put": {"0:S:0", 1, "put 0a", "0:S:0|1:IX:0", api.ErrWait},
		"the table waits, more":  {"0:S:0 1:IS:0 1:S:0a", 1, "put 0a", "0:S:0 1:IS:0 1:S:0a|1:IX:0", api.ErrWait},
		"the table is joined":    {"0:IX:0 1:IS:0", 1, "lock 0 S", "0:IX:0 1:IS:0|1:S:0", api.ErrWait},
		"joined, with what was":  {"0:IS:0 1:IX:0 2:IX:0", 1, "lock 0 S", "0:IS:0 1:IX:0 2:IX:0|1:SIX:0", api.ErrWait},
		"the key waits":          {"0:IX:0 0:X:0a", 1, "get 0a", "0:IX:0 0:X:0a 1:IS:0|1:S:0a", api.ErrWait},
		"the key waits, a put":   {"0:IS:0 0:S:0a", 1, "delete 0a", "0:IS:0 0:S:0a 1:IX:0|1:X:0a", api.ErrWait},
		"the key waits, a scan":  {"0:IX:0 0:X:0b", 1, "scan 0ac", "0:IX:0 0:X:0b 1:IS:0|1:S:0ac", api.ErrWait},
		"the key waits, joined":  {"1:IS:0 0:IS:0 0:S:0a", 1, "insert 0a", "1:IX:0 0:IS:0 0:S:0a|1:X:0a", api.ErrWait},
		"behind who waits":       {"0:IS:0|1:X:0", 2, "get 0a", "0:IS:0|1:X:0 2:IS:0", api.ErrWait},
		"behind who waits, key":  {"0:S:0a|1:X:0a", 2, "get 0a", "0:S:0a 2:IS:0|1:X:0a 2:S:0a", api.ErrWait},
		"who holds, though":      {"0:IS:0 0:S:0a|1:X:0a", 0, "get 0a", "0:IS:0 0:S:0a|1:X:0a", api.OK},
		"who waits":              {"0:X:0|1:S:0", 1, "get 1a", "0:X:0|1:S:0", api.ErrArg},
		"who waits, and has it":  {"1:IS:1 1:S:1a 0:X:0|1:S:0", 1, "get 1a", "1:IS:1 1:S:1a 0:X:0|1:S:0", api.ErrArg},
		"who waits, for it":      {"0:X:0|1:S:0", 1, "lock 0 S", "0:X:0|1:S:0", api.ErrArg},
		"who waits, a mark":      {"0:X:0|1:S:0", 1, "mark", "0:X:0|1:S:0", api.OK},
		"owner 4":                {"0:S:0", 4, "get 0a", "0:S:0", api.ErrArg},
		"owner -1":               {"0:S:0", -1, "lock 1 X", "0:S:0", api.ErrArg},
		"owner 9, a mark":        {"0:S:0", 9, "mark", "0:S:0", api.OK},
		"no operation":           {"0:S:0|1:X:0", 2, "crash", "0:S:0|1:X:0", api.OK},
		"no table":               {"0:S:0", 2, "get 4a", "0:S:0", api.OK},
		"a lock of no mode":      {"0:S:0", 2, "lock 0", "0:S:0", api.OK},
		"a lock of IX":           {"0:S:0", 2, "lock 0 IX", "0:S:0", api.OK},
		"two that clash":         {"0:X:0 1:X:0", 2, "get 1a", "0:X:0 1:X:0", api.ErrArg},
		"two that clash, a mark": {"0:X:0 1:X:0", 2, "mark", "0:X:0 1:X:0", api.OK},
		"waits for nobody":       {"|1:X:0", 2, "put 0a", "|1:X:0", api.ErrArg},
		"who may not be":         {"7:IS:9", 0, "get 0a", "7:IS:9", api.ErrArg},
		"who may not be, back":   {"7:IS:9", 0, "back", "7:IS:9", api.OK},
	}) {
		l := locks(c.l)
		m, e := hand.Hold(l, c.owner, op(c.o))
		if e != c.e || tell(m) != tell(locks(c.want)) {
			t.Errorf("%s: %d, %s", what, e, tell(m))
		}
		if n, f := held(l, c.owner, op(c.o)); f != e || tell(n) != tell(m) {
			t.Errorf("%s: by the words %d, %s", what, f, tell(n))
		}
	}
}

// P16.1: how many locks there may be; what was held ahead of the error stays.
func TestHoldOfFull(t *testing.T) {
	for what, c := range named(map[string]struct {
		l    api.Locks
		o    string
		more string
		e    api.Errno
	}{
		"38":                       {filled(38, 0), "get 0a", "3:IS:0 3:S:0a", api.OK},
		"39":                       {filled(39, 0), "get 0a", "3:IS:0", api.ErrLocks},
		"39, a put":                {filled(39, 2), "put 0a", "3:IX:0", api.ErrLocks},
		"39, a scan of nothing":    {filled(39, 1), "scan 0ba", "3:IS:0", api.OK},
		"39, a lock":               {filled(39, 0), "lock 0 X", "3:X:0", api.OK},
		"39, a mark":               {filled(39, 0), "mark", "", api.OK},
		"40":                       {filled(40, 0), "get 0a", "", api.ErrLocks},
		"40, a put":                {filled(40, 2), "put 0a", "", api.ErrLocks},
		"40, a lock":               {filled(40, 1), "lock 0 S", "", api.ErrLocks},
		"40, a mark":               {filled(40, 2), "mark", "", api.OK},
		"40, no operation":         {filled(40, 2), "crash", "", api.OK},
		"41":                       {filled(41, 0), "get 0a", "", api.ErrArg},
		"41, a mark":               {filled(41, 0), "mark", "", api.OK},
		"40, and it has both":      {with("3:IS:0 3:S:0a", filled(38, 0)), "get 0a", "", api.OK},
		"40, and it has the table": {with("3:IS:0", filled(39, 0)), "get 0a", "", api.ErrLocks},
		"39, and it has the table": {with("3:IS:0", filled(38, 1)), "get 0a", "3:S:0a", api.OK},
		"40, and it has the key":   {with("3:S:0a", filled(39, 0)), "get 0a", "", api.ErrLocks},
		"39, and it has the key":   {with("3:S:0a", filled(38, 0)), "get 0a", "3:IS:0", api.OK},
		"40, and it would wait":    {with("0:X:0", filled(39, 0)), "get 0a", "", api.ErrLocks},
		"40, and it would join":    {with("3:IS:0", filled(39, 0)), "put 0a", "", api.ErrLocks},
		"39, and the key waits":    {with("0:X:0a", filled(38, 0)), "get 0a", "3:IS:0", api.ErrLocks},
	}) {
		m, e := hand.Hold(c.l, 3, op(c.o))
		want := api.Locks{Held: slices.Concat(c.l.Held, list(c.more)), Queue: c.l.Queue}
		if e != c.e || tell(m) != tell(want) {
			t.Errorf("%s: %d, %s", what, e, tell(m))
		}
	}
	for what, c := range named(map[string]struct{ held, o, want, queue string }{
		"the table waits, the 40th":  {"0:X:0", "get 0a", "0:X:0", "3:IS:0"},
		"a join waits, the 40th":     {"0:IX:0 3:IS:0", "lock 0 S", "0:IX:0 3:IS:0", "3:S:0"},
		"a key waits, the 40th":      {"0:X:0a 3:IS:0", "get 0a", "0:X:0a 3:IS:0", "3:S:0a"},
		"joined, and the key's 40th": {"0:S:0a 3:IS:0", "put 0a", "0:S:0a 3:IX:0", "3:X:0a"},
	}) {
		more := filled(39-len(list(c.held)), 1)
		m, e := hand.Hold(with(c.held, more), 3, op(c.o))
		want := with(c.want, more)
		want.Queue = append(want.Queue, list(c.queue)...)
		if e != api.ErrWait || len(want.Held)+len(want.Queue) != 40 || tell(m) != tell(want) {
			t.Errorf("%s: %d, %s", what, e, tell(m))
		}
	}
}

// P16.2
func TestFree(t *testing.T) {
	for what, c := range named(map[string]struct {
		l     string
		owner int
		w     string
		want  bool
	}{
		"nothing":                  {"", 0, "", true},
		"nobody holds":             {"", 0, "0a 3b", true},
		"no writes":                {"1:X:0 1:X:1", 0, "", true},
		"the chapter's":            {"0:IX:0 0:X:0a", 1, "0a", false},
		"its own":                  {"1:IX:0 1:X:0a", 1, "0a", true},
		"its own X":                {"1:X:0", 1, "0a", true},
		"another key":              {"0:IX:0 0:X:0a", 1, "0b", true},
		"a key behind":             {"0:IX:0 0:X:0a", 1, "0aa", true},
		"a key ahead":              {"0:IX:0 0:X:0b", 1, "0a", true},
		"the least key":            {"0:IX:0 0:X:0a", 1, "0", true},
		"another table":            {"0:IX:0 0:X:0a", 1, "1a", true},
		"IS of the table":          {"0:IS:0", 1, "0a", true},
		"IX of the table":          {"0:IX:0", 1, "0a", true},
		"S of the table":           {"0:S:0", 1, "0a", false},
		"SIX of the table":         {"0:SIX:0", 1, "0a", false},
		"X of the table":           {"0:X:0", 1, "0a", false},
		"X of another table":       {"0:X:1", 1, "0a", true},
		"S of the key":             {"0:S:0a", 1, "0a", false},
		"X of the key":             {"0:X:0a", 1, "0a", false},
		"X of part, another table": {"0:X:1a-", 1, "0a", true},
		"S, it is the first":       {"0:S:0ac", 1, "0a", false},
		"S, it is in it":           {"0:S:0ac", 1, "0b", false},
		"S, it is the last":        {"0:S:0ac", 1, "0bz", false},
		"S, it is behind":          {"0:S:0ac", 1, "0c", true},
		"S, it is ahead":           {"0:S:0bd", 1, "0a", true},
		"S to the end":             {"0:S:0b-", 1, "0zz", false},
		"S to the end, ahead":      {"0:S:0b-", 1, "0az", true},
		"the second write":         {"0:S:0b", 1, "0a 0b", false},
		"the first write":          {"0:S:0a", 1, "0a 0b", false},
		"the one between":          {"0:S:0b", 1, "0a 0b 0c", false},
		"none of three":            {"0:S:0b", 1, "0a 1b 0c", true},
		"one twice":                {"0:S:0b", 1, "0b 0b", false},
		"the second write's table": {"0:S:1", 1, "0a 1a", false},
		"the last lock":            {"1:X:0a 2:IS:0 3:S:0b 0:S:0c", 1, "0c", false},
		"the first lock":           {"0:S:0c 1:X:0a 2:IS:0 3:S:0b", 1, "0c", false},
		"beside its own":           {"1:IS:0 1:S:0a 0:IS:0 0:S:0a", 1, "0a", false},
		"it waits":                 {"0:S:0a|1:X:0a", 1, "0a", false},
		"others wait":              {"1:X:0a|0:S:0a 2:X:0a", 1, "0a", true},
		"others wait for tables":   {"1:IX:0|0:S:0 2:X:0", 1, "0a", true},
		"who waits holds":          {"0:X:1 2:S:0a|2:X:1", 1, "0a", false},
		"owner 4":                  {"0:S:0a", 4, "0a", false},
		"owner 4, free":            {"0:S:0a", 4, "0b", true},
		"owner -1":                 {"0:S:0a", -1, "0a", false},
		"table 4":                  {"0:X:0 0:X:3", 1, "4a", true},
		"a long key":               {"0:X:0a", 1, "0aaaaaaaaaaaaaaaaaaaaaaa", true},
		"a long key, held":         {"0:S:0ab", 1, "0aaaaaaaaaaaaaaaaaaaaaaa", false},
		"two that clash":           {"0:X:1 1:X:1", 2, "0a", false},
		"two that clash, no write": {"0:X:1 1:X:1", 2, "", false},
		"waits for nobody":         {"|0:X:1", 2, "0a", false},
		"two in the queue":         {"0:X:1|1:X:1 1:X:1", 2, "0a", false},
		"who may not be":           {"5:IS:0", 2, "0a", false},
		"may not be, its own":      {"2:X:0 2:X:0", 2, "0a", false},
	}) {
		l := locks(c.l)
		for _, gone := range []bool{false, true} {
			w := writes(c.w)
			for i := range w {
				w[i].Gone, w[i].Value = gone, []byte(what)
			}
			if got := hand.Free(l, c.owner, w); got != c.want || free(l, c.owner, w) != c.want {
				t.Errorf("%s: not %v", what, c.want)
			}
		}
	}
	for many := 39; many <= 41; many++ {
		if hand.Free(filled(many, 2), 1, writes("0a")) != (many <= 40) {
			t.Errorf("of %d: not %v", many, many <= 40)
		}
	}
}

// P16.3
func TestBreak(t *testing.T) {
	for what, c := range named(map[string]struct {
		l      string
		stamps [4]int
		want   string
		gone   []int
	}{
		"nothing":                 {"", [4]int{1, 2, 3, 4}, "", nil},
		"nobody waits":            {"0:X:0 1:X:1", [4]int{1, 2, 3, 4}, "0:X:0 1:X:1", nil},
		"nobody waits for ever":   {"0:X:0|1:X:0 2:X:0 3:X:0", [4]int{1, 2, 3, 4}, "0:X:0|1:X:0 2:X:0 3:X:0", nil},
		"two":                     {"0:X:0a 1:X:0b|0:X:0b 1:X:0a", [4]int{1, 2, 3, 4}, "0:X:0a 0:X:0b", []int{1}},
		"two, the first":          {"0:X:0a 1:X:0b|0:X:0b 1:X:0a", [4]int{2, 1, 3, 4}, "1:X:0b 1:X:0a", []int{0}},
		"two, of one stamp":       {"0:X:0a 1:X:0b|0:X:0b 1:X:0a", [4]int{}, "0:X:0a 0:X:0b", []int{1}},
		"two, below 0":            {"0:X:0a 1:X:0b|0:X:0b 1:X:0a", [4]int{-1, -2, 0, 0}, "1:X:0b 1:X:0a", []int{0}},
		"two, the ends":           {"0:X:0a 1:X:0b|0:X:0b 1:X:0a", [4]int{math.MinInt, math.MaxInt, 0, 0}, "0:X:0a 0:X:0b", []int{1}},
		"all that one has goes":   {"0:X:0a 1:X:0b 1:S:1 1:S:2ac|0:X:0b 1:X:0a", [4]int{1, 2, 3, 4}, "0:X:0a 0:X:0b", []int{1}},
		"others stay":             {"0:X:0a 2:S:1 1:X:0b|0:X:0b 3:X:1 1:X:0a", [4]int{1, 2, 3, 4}, "0:X:0a 2:S:1 0:X:0b|3:X:1", []int{1}},
		"two that read":           {"0:S:0 1:S:0|0:SIX:0 1:SIX:0", [4]int{1, 2, 3, 4}, "0:SIX:0", []int{1}},
		"in its place":            {"0:IS:0 2:S:1 1:IX:0|0:S:0 1:SIX:0", [4]int{1, 2, 3, 4}, "0:S:0 2:S:1", []int{1}},
		"over the queue":          {"0:X:0|1:X:0 0:IS:0", [4]int{2, 1, 3, 4}, "1:X:0", []int{0}},
		"over the queue, turned":  {"0:X:0|1:X:0 0:IS:0", [4]int{1, 2, 3, 4}, "0:IS:0", []int{1}},
		"the youngest is outside": {"0:X:0a 1:X:0b|0:X:0b 1:X:0a 3:S:0a", [4]int{1, 2, 3, 4}, "0:X:0a 0:X:0b|3:S:0a", []int{1}},
		"three":                   {"0:X:0 1:X:1 2:X:2|0:X:1 1:X:2 2:X:0", [4]int{1, 3, 2, 4}, "0:X:0 2:X:2 0:X:1|2:X:0", []int{1}},
		"four":                    {"0:X:0 1:X:1 2:X:2 3:X:3|0:X:1 1:X:2 2:X:3 3:X:0", [4]int{4, 3, 2, 1}, "1:X:1 2:X:2 3:X:3 3:X:0|1:X:2 2:X:3", []int{0}},
		"two of two":              {"0:X:0 1:X:1 2:X:2 3:X:3|0:S:2 2:S:0 1:S:3 3:S:1", [4]int{1, 2, 3, 4}, "0:X:0 1:X:1 1:S:3 0:S:2", []int{3, 2}},
		"two of two, falling":     {"0:X:0 1:X:1 2:X:2 3:X:3|0:S:2 2:S:0 1:S:3 3:S:1", [4]int{8, 9, 3, 4}, "2:X:2 3:X:3 3:S:1 2:S:0", []int{1, 0}},
		"two of two, rising":      {"0:X:0 1:X:1 2:X:2 3:X:3|0:S:2 2:S:0 1:S:3 3:S:1", [4]int{9, 2, 3, 4}, "1:X:1 2:X:2 2:S:0 1:S:3", []int{0, 3}},
		"three of four":           {"0:S:0 1:S:0 2:S:0 3:S:0|0:X:0 1:X:0 2:X:0 3:X:0", [4]int{6, 8, 5, 7}, "2:X:0", []int{1, 3, 0}},
		"three of four, one time": {"0:S:0 1:S:0 2:S:0 3:S:0|0:X:0 1:X:0 2:X:0 3:X:0", [4]int{}, "0:X:0", []int{3, 2, 1}},
		"one in two rings":        {"0:X:0 1:X:1 2:X:2 1:X:3|0:S:1 1:S:0 2:S:3", [4]int{1, 2, 3, 0}, "0:X:0 2:X:2 0:S:1 2:S:3", []int{1}},
		"one in both, younger":    {"0:X:0a 1:X:0b 2:S:0b 0:S:0d|0:S:0b", [4]int{1, 2, 3, 0}, "0:X:0a 1:X:0b 2:S:0b 0:S:0d|0:S:0b", nil},
		"both wait for one":       {"0:X:0a 1:S:0b 2:S:0b|0:X:0b 1:S:0a 2:S:0a", [4]int{9, 1, 2, 0}, "1:S:0b 2:S:0b 1:S:0a 2:S:0a", []int{0}},
		"both wait, the older":    {"0:X:0a 1:S:0b 2:S:0b|0:X:0b 1:S:0a 2:S:0a", [4]int{1, 8, 9, 0}, "0:X:0a 0:X:0b", []int{2, 1}},
		"two that clash":          {"0:X:0 1:X:0|0:IS:0 1:IS:0", [4]int{1, 2, 3, 4}, "0:X:0 1:X:0|0:IS:0 1:IS:0", nil},
		"who may not be":          {"0:X:0a 1:X:0b 7:S:3|0:X:0b 1:X:0a", [4]int{1, 2, 3, 4}, "0:X:0a 1:X:0b 7:S:3|0:X:0b 1:X:0a", nil},
		"one waits twice":         {"0:X:0a 1:X:0b|0:X:0b 1:X:0a 0:X:0b", [4]int{1, 2, 3, 4}, "0:X:0a 1:X:0b|0:X:0b 1:X:0a 0:X:0b", nil},
		"41":                      {"0:X:0a 1:X:0b" + strings.Repeat(" 2:S:3a", 37) + "|0:X:0b 1:X:0a", [4]int{1, 2, 3, 4}, "0:X:0a 1:X:0b" + strings.Repeat(" 2:S:3a", 37) + "|0:X:0b 1:X:0a", nil},
		"40":                      {"0:X:0a 1:X:0b" + strings.Repeat(" 2:S:3a", 36) + "|0:X:0b 1:X:0a", [4]int{1, 2, 3, 4}, "0:X:0a" + strings.Repeat(" 2:S:3a", 36) + " 0:X:0b", []int{1}},
	}) {
		l := locks(c.l)
		m, gone := hand.Break(l, c.stamps)
		if tell(m) != tell(locks(c.want)) || !slices.Equal(gone, c.gone) {
			t.Errorf("%s: %s, %v", what, tell(m), gone)
		}
		if n, went := broken(l, c.stamps); tell(n) != tell(m) || !slices.Equal(gone, went) {
			t.Errorf("%s: by the words %s, %v", what, tell(n), went)
		}
	}
}

// The document's fifth example: two that wait for one another; the younger one goes, and the other one has what it asked for.
func TestTwoWaitForOneAnother(t *testing.T) {
	var l api.Locks
	for i, c := range []struct {
		owner int
		o     string
		e     api.Errno
	}{{0, "put 0x", api.OK}, {1, "put 0y", api.OK}, {0, "put 0y", api.ErrWait}, {1, "put 0x", api.ErrWait}} {
		m, e := hand.Hold(l, c.owner, op(c.o))
		if l = m; e != c.e {
			t.Fatalf("%d: %d, %s", i, e, tell(l))
		}
	}
	l, gone := hand.Break(l, [4]int{1, 2, 0, 0})
	if want := locks("0:IX:0 0:X:0x 0:X:0y"); !slices.Equal(gone, []int{1}) || tell(l) != tell(want) {
		t.Fatalf("%v, %s", gone, tell(l))
	}
	again, e := hand.Hold(l, 0, op("put 0y"))
	if e != api.OK || tell(again) != tell(l) {
		t.Errorf("again: %d, %s", e, tell(again))
	}
	if w := writes("0x 0y"); !hand.Free(l, 0, w) || hand.Free(l, 1, w) || hand.Free(l, 1, w[1:]) {
		t.Error("what 0 holds")
	}
}

// served tells whether who holds the locks holds x, by the chapters' words.
func served(l []api.Lock, x api.Lock) bool {
	return slices.ContainsFunc(l, func(y api.Lock) bool {
		if y.Owner != x.Owner || y.Span.Table != x.Span.Table {
			return false
		}
		if y.Whole {
			return mode.Covers(y.Mode, x.Mode)
		}
		return !x.Whole && span.Covers(y.Span, x.Span) && (y.Mode == api.X || y.Mode == x.Mode)
	})
}

// may tells whether one who does not wait may hold what an operation needs: there is room, and no lock of another's, that is held, or waited for, stands against it.
func may(l api.Locks, owner int, o api.Op) bool {
	size := len(l.Held) + len(l.Queue)
	for _, x := range txn.Locks(o, owner) {
		if served(l.Held, x) {
			continue
		}
		own := slices.IndexFunc(l.Held, func(y api.Lock) bool {
			return x.Whole && y.Whole && y.Owner == owner && y.Span.Table == x.Span.Table
		})
		if size >= 40 {
			return false
		}
		if own >= 0 {
			x.Mode = mode.Join(x.Mode, l.Held[own].Mode)
		} else {
			size++
		}
		if slices.ContainsFunc(slices.Concat(l.Held, l.Queue), func(y api.Lock) bool { return lock.Clash(x, y) }) {
			return false
		}
	}
	return true
}

// others tells whether another one than the owner holds what one of the writes is of: all of its table, not just some of it, or a part that its key is in.
func others(l api.Locks, owner int, w []api.Write) bool {
	for _, x := range l.Held {
		for _, y := range w {
			if x.Owner == owner || x.Span.Table != y.Table {
				continue
			}
			if x.Whole && (x.Mode == api.S || x.Mode == api.SIX || x.Mode == api.X) {
				return true
			}
			if key := string(y.Key); !x.Whole && string(x.Span.Lo) <= key && (x.Span.Open || key < string(x.Span.Hi)) {
				return true
			}
		}
	}
	return false
}

// compareHold holds what Hold tells against the chapter's words, and against P16.4; it answers what that is.
func compareHold(t *testing.T, l api.Locks, owner int, o api.Op) (api.Locks, api.Errno) {
	t.Helper()
	m, e := hand.Hold(l, owner, o)
	if n, f := held(l, owner, o); f != e || tell(n) != tell(m) {
		t.Fatalf("%s, %d, %v: %d, %s, for %d, %s", tell(l), owner, o, e, tell(m), f, tell(n))
	}
	need := txn.Locks(o, owner)
	if len(need) == 0 && (e != api.OK || tell(m) != tell(l)) || e == api.ErrArg && tell(m) != tell(l) {
		t.Fatalf("%s, %d, %v: %d, and changed to %s", tell(l), owner, o, e, tell(m))
	}
	if len(need) == 0 || !lock.Check(l) || owner < 0 || owner > 3 || lock.Waits(l, owner) {
		if len(need) > 0 && e != api.ErrArg {
			t.Fatalf("%s, %d, %v: %d", tell(l), owner, o, e)
		}
		return m, e
	}
	if may(l, owner, o) != (e == api.OK) || !lock.Check(m) || lock.Waits(m, owner) != (e == api.ErrWait) {
		t.Fatalf("%s, %d, %v: %d, %s", tell(l), owner, o, e, tell(m))
	}
	if e != api.OK {
		return m, e
	}
	for _, x := range need {
		if !served(m.Held, x) {
			t.Fatalf("%s, %d, %v: it does not hold %s", tell(l), owner, o, said(x))
		}
	}
	if n, f := hand.Hold(m, owner, o); f != api.OK || tell(n) != tell(m) {
		t.Fatalf("%s, %d, %v: again %d, %s", tell(l), owner, o, f, tell(n))
	}
	return m, e
}

// compareFree holds what Free tells against the chapter's words, and against P16.4.
func compareFree(t *testing.T, l api.Locks, owner int, w []api.Write) bool {
	t.Helper()
	got := hand.Free(l, owner, w)
	if got != free(l, owner, w) || got != (lock.Check(l) && !others(l, owner, w)) {
		t.Fatalf("%s, %d, %v: %v", tell(l), owner, w, got)
	}
	return got
}

// compareBreak holds what Break tells against the chapter's words, and against P16.4.
func compareBreak(t *testing.T, l api.Locks, stamps [4]int) (api.Locks, []int) {
	t.Helper()
	m, gone := hand.Break(l, stamps)
	if n, went := broken(l, stamps); tell(n) != tell(m) || !slices.Equal(gone, went) {
		t.Fatalf("%s, %v: %s, %v, for %s, %v", tell(l), stamps, tell(m), gone, tell(n), went)
	}
	stuck := wait.Stuck(wait.Edges(l))
	if len(wait.Stuck(wait.Edges(m))) > 0 || len(stuck) == 0 && (len(gone) > 0 || tell(l) != tell(m)) {
		t.Fatalf("%s, %v: %s, %v", tell(l), stamps, tell(m), gone)
	}
	for i, owner := range gone {
		theirs := func(x api.Lock) bool { return x.Owner == owner }
		if slices.Contains(gone[:i], owner) || slices.ContainsFunc(slices.Concat(m.Held, m.Queue), theirs) {
			t.Fatalf("%s, %v: %d goes, %s", tell(l), stamps, owner, tell(m))
		}
	}
	if len(gone) > 0 && slices.ContainsFunc(stuck, func(n int) bool {
		return stamps[n] > stamps[gone[0]] || stamps[n] == stamps[gone[0]] && n > gone[0]
	}) {
		t.Fatalf("%s, %v: %d is not the youngest", tell(l), stamps, gone[0])
	}
	for _, x := range l.Held {
		// What comes of the Queue may stand in the place of x.
		same := func(y api.Lock) bool { return said(y) == said(x) }
		more := func(y api.Lock) bool {
			return x.Whole && y.Whole && y.Owner == x.Owner && y.Span.Table == x.Span.Table
		}
		if !slices.Contains(gone, x.Owner) && !slices.ContainsFunc(m.Held, same) && !slices.ContainsFunc(l.Queue, more) {
			t.Fatalf("%s, %v: %s is not held", tell(l), stamps, said(x))
		}
	}
	return m, gone
}

// small are all locks of up to three held, and up to two waited for, of some, those that may not be, too.
func small(words string) []api.Locks {
	some := list(words)
	all := []api.Locks{{}}
	for i := 0; i < len(all); i++ {
		for _, x := range some {
			if len(all[i].Held) < 3 && len(all[i].Queue) == 0 {
				all = append(all, api.Locks{Held: append(slices.Clone(all[i].Held), x)})
			}
			if len(all[i].Queue) < 2 {
				all = append(all, api.Locks{Held: all[i].Held, Queue: append(slices.Clone(all[i].Queue), x)})
			}
		}
	}
	return all
}

// P16.1 to P16.4: all small locks.
func TestOfAll(t *testing.T) {
	done := ops("get 0a,put 0a,insert 0b,delete 1a,scan 0ac,scan 0b-,scan 0ca,lock 0 S,lock 0 X,mark,commit,crash,get 5a")
	wrote := [][]api.Write{nil, writes("0a"), writes("0b"), writes("0a 0b"), writes("1a 0c"), writes("0a 7a")}
	for _, words := range []string{"0:IX:0 1:S:0 2:X:0 0:S:0 1:IS:0", "0:X:0a 0:S:0ac 1:S:0b- 1:X:0a 2::0", "0:IS:0 0:S:0a 1:IX:0 1:X:0b 2:X:0a"} {
		for i, l := range small(words) {
			for j, o := range done {
				compareHold(t, l, (i+j)%6-1, o)
			}
			for owner := -1; owner <= 4; owner++ {
				for _, w := range wrote {
					compareFree(t, l, owner, w)
				}
			}
			compareBreak(t, l, [4]int{i % 2, i % 3, i % 5, i % 7})
			compareBreak(t, l, [4]int{})
		}
	}
}

// chance is a run of numbers, the same ones each time.
type chance uint32

func (c *chance) below(n int) int {
	*c = *c*1664525 + 1013904223
	return int(*c>>16) % n
}

// op is any operation, of some tables, and some keys.
func (c *chance) op(tables int) api.Op {
	key := func() []byte { return []byte([]string{"", "a", "b", "c", "d"}[c.below(5)]) }
	o := api.Op{Kind: 1 + c.below(9), Table: c.below(tables), Key: key()}
	switch o.Kind {
	case api.KScan:
		if o.Open = c.below(2) == 0; !o.Open {
			o.Hi = key()
		}
	case api.KLock:
		o.N = []int{api.S, api.X, api.S, api.X, api.IX}[c.below(5)]
		if c.below(3) > 0 {
			o.Kind = api.KGet
		}
	}
	return o
}

// P16.4: whatever is held, broken and dropped.
func TestWhateverIsHeld(t *testing.T) {
	told, went, frees := map[api.Errno]int{}, map[int]int{}, map[bool]int{}
	for seed := range 120 {
		c := chance(seed*7919 + 1)
		tables := 1 + seed%4
		var l api.Locks
		for range 80 {
			owner := c.below(4)
			m, e := compareHold(t, l, owner, c.op(tables))
			l = m
			told[e]++
			w := []api.Write{{Table: c.below(tables), Key: []byte{byte('a' + c.below(4))}}, {Table: c.below(tables), Key: []byte{byte('a' + c.below(4))}}}
			frees[compareFree(t, l, c.below(4), w[:c.below(3)])]++
			m, gone := compareBreak(t, l, [4]int{c.below(5), c.below(5), c.below(5), c.below(5)})
			// When it is broken late, more of them are stuck by then.
			if seed%3 > 0 || c.below(6) == 0 {
				l = m
				went[len(gone)]++
			}
			if c.below(4+seed%15) == 0 {
				l, _ = lock.Drop(l, c.below(4))
			}
		}
		for owner := range 4 {
			l, _ = lock.Drop(l, owner)
		}
		if len(l.Held)+len(l.Queue) > 0 {
			t.Fatalf("%d: %s", seed, tell(l))
		}
	}
	if told[api.OK] < 1000 || told[api.ErrWait] < 1000 || told[api.ErrArg] < 100 || frees[true] < 1000 || frees[false] < 1000 || went[0] < 1000 || went[1] < 100 || went[2] < 10 || went[3] == 0 {
		t.Errorf("%v, %v, %v", told, frees, went)
	}
}

// P16.4: whatever is held, up to as many locks as there may be.
func TestWhateverIsHeldOfMany(t *testing.T) {
	told := map[api.Errno]int{}
	for seed := range 10 {
		c := chance(seed*7919 + 1)
		var l api.Locks
		for range 120 {
			owner := c.below(4)
			o := api.Op{Kind: 1 + c.below(5), Table: (owner + c.below(20)/19) % 4, Key: []byte{byte('a' + c.below(20))}}
			if o.Kind == api.KScan {
				o.Hi = append(o.Key, 'm')
			}
			m, e := compareHold(t, l, owner, o)
			told[e]++
			if l, _ = compareBreak(t, m, [4]int{4, 3, 2, 1}); c.below(40) == 0 {
				l, _ = lock.Drop(l, owner)
			}
		}
	}
	if told[api.OK] < 100 || told[api.ErrLocks] < 100 {
		t.Errorf("%v", told)
	}
}

// P16.4: of who holds nothing, while nobody waits, a write is Free if, and only if, they may hold a put of it.
func TestFreeIsWhatOneMayHold(t *testing.T) {
	seen := map[bool]int{}
	for seed := range 400 {
		c := chance(seed*104729 + 3)
		var l api.Locks
		for range 8 {
			if m, e := hand.Hold(l, c.below(3), c.op(2)); e == api.OK {
				l = m
			}
		}
		for table := range 4 {
			for _, key := range []string{"", "a", "b", "bb", "c", "z"} {
				o := api.Op{Kind: 2 + c.below(3), Table: table, Key: []byte(key)}
				_, e := hand.Hold(l, 3, o)
				is := hand.Free(l, 3, []api.Write{{Table: table, Key: []byte(key), Gone: o.Kind == api.KDelete}})
				if is != (e == api.OK) || is != (e != api.ErrWait) {
					t.Fatalf("%s: %d %q: %v, %d", tell(l), table, key, is, e)
				}
				seen[is]++
			}
		}
	}
	if seen[true] < 100 || seen[false] < 100 {
		t.Errorf("%v", seen)
	}
}

// R1: all numbers, in whatever place.
func TestOddNumbers(t *testing.T) {
	l := locks("0:IX:0 0:X:0a 1:S:1 2:X:2|3:S:0 1:X:2")
	for _, a := range odd {
		for _, b := range odd {
			for _, c := range odd {
				o := api.Op{Kind: a, Table: b, Key: []byte("a"), N: c}
				compareHold(t, l, c, o)
				compareHold(t, l, a, api.Op{Kind: api.KPut, Table: b, N: c})
				compareFree(t, l, a, []api.Write{{Table: b, Key: []byte("a")}, {Table: c}})
				m := api.Locks{Held: slices.Clone(l.Held), Queue: slices.Clone(l.Queue)}
				m.Held[2].Owner, m.Held[2].Span.Table, m.Queue[0].Mode = a, b, c
				compareHold(t, m, 2, op("put 3a"))
				compareFree(t, m, 2, writes("0a 3a"))
				compareBreak(t, m, [4]int{a, b, c, b})
				compareBreak(t, locks("0:X:0a 1:X:0b 2:X:0c|0:X:0b 1:X:0c 2:X:0a"), [4]int{a, b, c, a})
			}
		}
	}
}

// R1: long lists, and long texts.
func TestLong(t *testing.T) {
	many := slices.Repeat(list("0:S:0a"), 1<<17)
	for _, l := range []api.Locks{{Held: many}, {Queue: many}, {Held: many[:40], Queue: many}} {
		for _, c := range []struct {
			o string
			e api.Errno
		}{{"get 1a", api.ErrArg}, {"mark", api.OK}} {
			if m, e := hand.Hold(l, 1, op(c.o)); e != c.e || len(m.Held) != len(l.Held) || len(m.Queue) != len(l.Queue) {
				t.Errorf("%s: %d, %d, %d", c.o, e, len(m.Held), len(m.Queue))
			}
		}
		if m, gone := hand.Break(l, [4]int{}); len(gone) > 0 || len(m.Held) != len(l.Held) || len(m.Queue) != len(l.Queue) {
			t.Errorf("%v, %d, %d", gone, len(m.Held), len(m.Queue))
		}
		if hand.Free(l, 1, nil) {
			t.Error("many are free")
		}
	}
	w := slices.Repeat(writes("0b 1a"), 1<<18)
	if l := locks("0:S:0a"); !hand.Free(l, 1, w) || hand.Free(l, 1, append(w, writes("0a")...)) {
		t.Error("many writes")
	}
	long := bytes.Repeat([]byte("k"), 1<<20)
	held := api.Locks{Held: []api.Lock{{Span: api.Span{Lo: long, Open: true}, Mode: api.X}}}
	if hand.Free(held, 1, writes("1a")) || !hand.Free(locks("0:X:0a"), 1, []api.Write{{Key: long}}) || hand.Free(locks("0:X:0a-"), 1, []api.Write{{Key: long}}) {
		t.Error("a long key, written")
	}
	for _, o := range []api.Op{{Kind: api.KGet, Key: long}, {Kind: api.KPut, Value: long}, {Kind: api.KScan, Hi: long}} {
		if m, e := hand.Hold(locks("0:S:0a"), 1, o); e != api.OK || tell(m) != tell(locks("0:S:0a")) {
			t.Errorf("%d: %d, %d", o.Kind, e, len(m.Held))
		}
	}
	if m, e := hand.Hold(held, 1, op("get 0a")); e != api.ErrArg || len(m.Held) != 1 || !bytes.Equal(m.Held[0].Span.Lo, long) {
		t.Errorf("a long key, held: %d", e)
	}
}

// ask is what to call with.
type ask struct {
	L      api.Locks
	O      api.Op
	W      []api.Write
	Stamps [4]int
	Owner  int
}

// answers are what all calls tell.
func (a ask) answers() map[string]any {
	type held struct {
		L api.Locks
		E api.Errno
	}
	type broken struct {
		L    api.Locks
		Gone []int
	}
	l, e := hand.Hold(a.L, a.Owner, a.O)
	m, gone := hand.Break(a.L, a.Stamps)
	return map[string]any{
		"Hold":  held{l, e},
		"Free":  hand.Free(a.L, a.Owner, a.W),
		"Break": broken{m, gone},
	}
}

// asks are locks, that may be, and that may not, with operations, of all kinds of answers.
func asks() []ask {
	some := []api.Locks{filled(38, 1), filled(39, 2), filled(40, 3), filled(41, 0)}
	for _, words := range []string{"", "0:IS:0 0:S:0a", "0:IX:0 1:IX:0 1:X:0a|0:S:0a", "0:X:0a 1:X:0b 2:X:0c 3:X:0d|0:S:0b 1:S:0a 2:S:0d 3:S:0c", "0:S:0 1:S:0 2:S:0|0:SIX:0 1:SIX:0 2:SIX:0", "0:IS:0 1:IX:0|0:S:0 1:SIX:0 3:IS:0", "0:X:0 1:X:0|2:S:0", "7:S:0a 0::1"} {
		some = append(some, locks(words))
	}
	done := ops("get 0a,put 0a,insert 0b,scan 0ac,scan 0b-,lock 0 S,lock 1 X,mark,crash,delete 3a")
	wrote := [][]api.Write{nil, writes("0a"), writes("3b 0c 1")}
	var all []ask
	for i, l := range some {
		for j, o := range done {
			for owner := range 5 {
				all = append(all, ask{l, o, wrote[(i+j+owner)%3], [4]int{i % 3, j % 2, 1, 1}, owner})
			}
		}
	}
	return all
}

// lists hands over all lists in a value, and in their spare room.
func lists(v reflect.Value, do func(l reflect.Value)) {
	switch v.Kind() {
	case reflect.Interface:
		lists(v.Elem(), do)
	case reflect.Struct:
		for i := range v.NumField() {
			lists(v.Field(i), do)
		}
	case reflect.Slice:
		if v.Cap() > 0 {
			l := v.Slice3(0, v.Cap(), v.Cap())
			do(l)
			for i := range l.Len() {
				lists(l.Index(i), do)
			}
		}
	}
}

// room is the memory of a list, its spare room in it; rooms are those of all lists in a value.
type room struct{ from, to uintptr }

func rooms(x any) []room {
	var all []room
	lists(reflect.ValueOf(x), func(l reflect.Value) {
		all = append(all, room{l.Pointer(), l.Pointer() + uintptr(l.Len())*l.Type().Elem().Size()})
	})
	return all
}

// apart tells whether no room reaches into another one's.
func apart(all ...[]room) bool {
	one := slices.Concat(all...)
	slices.SortFunc(one, func(a, b room) int { return int(a.from) - int(b.from) })
	for i := 1; i < len(one); i++ {
		if one[i].from < one[i-1].to {
			return false
		}
	}
	return true
}

// all is all that is in a value, the lists' spare room in it.
func all(x any) string {
	var b strings.Builder
	fmt.Fprintf(&b, "%v\n", x)
	lists(reflect.ValueOf(x), func(l reflect.Value) { fmt.Fprintf(&b, "%v\n", l) })
	return b.String()
}

// spoil overwrites all lists in a value, and their spare room, with other elements.
func spoil(x any) {
	var all []reflect.Value
	lists(reflect.ValueOf(x), func(l reflect.Value) { all = append(all, l) })
	for _, l := range all {
		for i := range l.Len() {
			if b, is := l.Index(i).Addr().Interface().(*byte); is {
				*b += 101
				continue
			}
			l.Index(i).Set(spoilt(l.Type().Elem()))
		}
	}
}

// spoilt is an element that stands in none of the test's lists.
func spoilt(t reflect.Type) reflect.Value {
	for _, x := range []any{byte('z'), 77, one("-7:X:9sp"), api.Write{Table: -7, Key: []byte("spoilt")}} {
		if reflect.TypeOf(x) == t {
			return reflect.ValueOf(x)
		}
	}
	panic("spoilt: " + t.String())
}

// twin is what there is to call with, in memory of its own; with spare room, in which something stands, in each list.
func twin(a ask, spare bool) ask {
	v := reflect.New(reflect.TypeOf(a)).Elem()
	v.Set(reflect.ValueOf(a))
	remake(v, spare)
	return v.Interface().(ask)
}
func remake(v reflect.Value, spare bool) {
	switch v.Kind() {
	case reflect.Struct:
		for i := range v.NumField() {
			remake(v.Field(i), spare)
		}
	case reflect.Slice:
		size, more := v.Len(), 0
		if spare {
			more = 2
		}
		own := reflect.MakeSlice(v.Type(), size, size+more)
		reflect.Copy(own, v)
		for i := range size {
			remake(own.Index(i), spare)
		}
		for i := range more {
			x := own.Slice(0, size+more).Index(size + i)
			x.Set(spoilt(x.Type()))
			remake(x, false)
		}
		v.Set(own)
	}
}

// plain is a value in words, to which it is nothing whether an empty list is nil.
func plain(x any) string { return fmt.Sprintf("%v", x) }

// R3, R4: nothing is written into what is handed in, or its spare room, by a call, or by who has its answers.
func TestArgumentsStay(t *testing.T) {
	for _, a := range asks() {
		own := twin(a, true)
		was := all(own)
		for _, x := range own.answers() {
			spoil(x)
		}
		if all(own) != was {
			t.Fatalf("%v: what was handed in is changed", a)
		}
	}
}

// R4: what is answered stays, whatever becomes of what was handed in.
func TestAnswersStay(t *testing.T) {
	for _, a := range asks() {
		own := twin(a, true)
		got := own.answers()
		spoil(own)
		for call, want := range a.answers() {
			if plain(got[call]) != plain(want) {
				t.Fatalf("%s, %v: %v for %v", call, a, got[call], want)
			}
		}
	}
}

// R4: no two lists of one answer share memory, nor do an answer's and an argument's, nor two answers'.
func TestListsApart(t *testing.T) {
	for _, a := range asks() {
		own := twin(a, true)
		handed := rooms(own)
		first, second := own.answers(), own.answers()
		for call, x := range first {
			if !apart(rooms(x), handed, rooms(second[call])) {
				t.Fatalf("%s, %v: memory is shared", call, a)
			}
		}
		// Memory that nobody has any more may be another one's.
		runtime.KeepAlive([]any{own, first, second})
	}
}

// R4: nor do they when it was shared in what was handed in.
func TestSharedArguments(t *testing.T) {
	text := []byte("abcd\x00")
	part := func(owner, lo, hi, m int) api.Lock {
		return api.Lock{Owner: owner, Span: api.Span{Lo: text[lo : lo+1], Hi: text[hi : hi+1]}, Mode: m}
	}
	both := []api.Lock{part(0, 0, 1, api.X), part(1, 1, 3, api.X), part(0, 1, 2, api.S), part(1, 0, 1, api.S)}
	for _, l := range []api.Locks{{Held: both[:2], Queue: both[2:]}, {Held: both[:2], Queue: both[1:2]}, {Held: both[:1]}, {Held: both, Queue: both}} {
		for _, o := range ops("get 0a,put 0c,scan 0ac,scan 1a-,lock 1 X,mark,crash") {
			o.Key, o.Hi = text[:min(1, len(o.Key))], text[2:2+min(1, len(o.Hi))]
			a := ask{l, o, []api.Write{{Key: text[:2], Value: text}, {Key: text[:1], Value: text}}, [4]int{1, 2}, 2}
			was := all(a) + all(text)
			handed := rooms(a)
			for call, x := range a.answers() {
				got := rooms(x)
				if !apart(got) {
					t.Fatalf("%s, %v: memory is shared", call, a)
				}
				for _, r := range handed {
					if !apart(got, []room{r}) {
						t.Fatalf("%s, %v: memory is shared with an argument", call, a)
					}
				}
				spoil(x)
				if all(a)+all(text) != was {
					t.Fatalf("%s, %v: what was handed in is changed", call, a)
				}
			}
			runtime.KeepAlive(a)
		}
	}
}

// R5: spare room, what stands in it, and whether an empty list is nil, is nothing to an answer; nor is what was asked ahead, or is asked beside.
func TestNothingElseMatters(t *testing.T) {
	var first []map[string]any
	asked := asks()
	for _, a := range asked {
		first = append(first, a.answers())
	}
	end := make(chan bool)
	for _, spare := range []bool{false, true} {
		go func() {
			for i, a := range slices.Backward(asked) {
				for call, x := range twin(a, spare).answers() {
					if plain(x) != plain(first[i][call]) {
						t.Errorf("%s, %v: %v, ahead of it %v", call, a, x, first[i][call])
					}
				}
			}
			end <- true
		}()
	}
	<-end
	<-end
	for kind := range 13 {
		bare := ask{O: api.Op{Kind: kind, N: api.S}, W: []api.Write{{}}}
		filled := twin(bare, false)
		for call, x := range filled.answers() {
			if y := bare.answers()[call]; plain(x) != plain(y) {
				t.Errorf("%s: %v, %v", call, x, y)
			}
		}
	}
}
