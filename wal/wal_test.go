package wal_test

import (
	"bytes"
	"fmt"
	"math"
	"slices"
	"testing"

	"banksman/api"
	"banksman/wal"
)

// text is one of n bytes, that are not all alike.
func text(n int) []byte {
	b := make([]byte, n)
	for i := range b {
		b[i] = byte(i*37 + i/256*11 + 5)
	}
	return b
}

// join is lists of bytes, one behind the other, in new memory.
func join(l ...[]byte) []byte { return bytes.Join(l, nil) }

// roomy is b with some bytes in its spare room.
func roomy(b, spare []byte) []byte { return join(b, spare)[:len(b)] }

// fill overwrites a list and its spare room.
func fill(b []byte) {
	b = b[:cap(b)]
	for i := range b {
		b[i] = 200
	}
}

// framed is a text's frame; of its sum's second part, a byte counts as often as there are bytes from it on.
func framed(t []byte) []byte {
	x, y := 0, 0
	for i, c := range t {
		x += int(c)
		y += (len(t) - i) * int(c)
	}
	x, y = x%65535, y%65535
	ahead := []byte{byte(len(t))}
	if len(t) >= 128 {
		ahead = []byte{byte(len(t)%128 + 128), byte(len(t) / 128)}
	}
	return join(ahead, t, []byte{byte(x % 256), byte(x / 256), byte(y % 256), byte(y / 256)})
}

// log is one of texts' frames, so many bytes of it synced.
func log(synced int, texts ...[]byte) api.Log {
	l := api.Log{Synced: synced}
	for _, t := range texts {
		l.Bytes = append(l.Bytes, framed(t)...)
	}
	return l
}

// same tells whether logs are the same.
func same(a, b api.Log) bool { return bytes.Equal(a.Bytes, b.Bytes) && a.Synced == b.Synced }

// alike tells whether lists of texts are the same.
func alike(a, b [][]byte) bool { return slices.EqualFunc(a, b, bytes.Equal) }

// tell is a log in few words.
func tell(l api.Log) string { return fmt.Sprintf("%d bytes, %d synced", len(l.Bytes), l.Synced) }

// sizes are of texts whose frames have 5, 6, 7, 132, 134 bytes, and 2006.
var sizes = []int{0, 1, 2, 127, 128, 2000}

// wrong are logs that may not be; their bytes have whole frames, where there are some.
func wrong() map[string]api.Log {
	some := log(0, []byte{1}, nil).Bytes
	long := make([]byte, 20001)
	return map[string]api.Log{
		"none, 1 synced":         {Synced: 1},
		"none, -1 synced":        {Synced: -1},
		"none, all of int":       {Synced: math.MaxInt},
		"none, least of int":     {Synced: math.MinInt},
		"nothing, 1 synced":      {Bytes: []byte{}, Synced: 1},
		"one more than there is": {Bytes: some, Synced: len(some) + 1},
		"-1":                     {Bytes: some, Synced: -1},
		"all of int":             {Bytes: some, Synced: math.MaxInt},
		"least of int":           {Bytes: some, Synced: math.MinInt},
		"more, in spare room":    {Bytes: roomy(some, some), Synced: 2 * len(some)},
		"too long":               {Bytes: long},
		"too long, one unsynced": {Bytes: long, Synced: 20000},
		"too long, synced":       {Bytes: long, Synced: 20001},
		"too long, and more":     {Bytes: long, Synced: 20002},
		"too long, and -1":       {Bytes: long, Synced: -1},
		"far too long":           {Bytes: make([]byte, 1<<20), Synced: 5},
	}
}

// P4.1
func TestCheck(t *testing.T) {
	for _, n := range []int{0, 1, 2, 500, 19999, 20000, 20001, 20002, 40000, 65536, 1 << 20} {
		for _, synced := range []int{math.MinInt, math.MinInt32, -20000, -n, -2, -1, 0, 1, 2, n / 2, n - 1, n, n + 1, 20000, 20001, 1 << 31, math.MaxInt} {
			want := n <= 20000 && 0 <= synced && synced <= n
			if ok := wal.Check(api.Log{Bytes: make([]byte, n), Synced: synced}); ok != want {
				t.Errorf("%d bytes, %d synced: %v", n, synced, ok)
			}
		}
	}
	for name, l := range wrong() {
		if wal.Check(l) {
			t.Error(name)
		}
	}
	if !wal.Check(api.Log{}) || !wal.Check(api.Log{Bytes: text(300), Synced: 299}) {
		t.Error("logs that may be are refused")
	}
}

// P4.1: ErrArg goes ahead of the errors of texts, and of room.
func TestMayNotBe(t *testing.T) {
	for name, l := range wrong() {
		kept := api.Log{Bytes: bytes.Clone(l.Bytes), Synced: l.Synced}
		for _, texts := range [][][]byte{nil, {}, {nil}, {{1}}, {{1}, {2}}, {text(2001)}, {{1}, text(2001)}, slices.Repeat([][]byte{text(2000)}, 11)} {
			if x, e := wal.Append(l, texts...); !same(x, kept) || e != api.ErrArg {
				t.Errorf("%s, Append of %d: %s, %v", name, len(texts), tell(x), e)
			}
		}
		for _, keep := range []int{math.MinInt, -1, 0, 1, 6, 11, 12, 20000, 20001, math.MaxInt} {
			if x := wal.Crash(l, keep); !same(x, kept) {
				t.Errorf("%s, Crash %d: %s", name, keep, tell(x))
			}
		}
		if x := wal.Sync(l); !same(x, kept) {
			t.Errorf("%s, Sync: %s", name, tell(x))
		}
		if x := wal.Trim(l); !same(x, kept) {
			t.Errorf("%s, Trim: %s", name, tell(x))
		}
		if x := wal.Texts(l); len(x) != 0 {
			t.Errorf("%s, Texts: %d", name, len(x))
		}
	}
}

// The chapter's example.
func TestExample(t *testing.T) {
	l, e := wal.Append(api.Log{}, []byte("a"))
	if e != api.OK || !same(l, api.Log{Bytes: []byte{1, 97, 97, 0, 97, 0}}) {
		t.Fatalf("%+v, %v", l, e)
	}
	l, e = wal.Append(wal.Sync(l), []byte("b"))
	if e != api.OK || !same(l, api.Log{Bytes: []byte{1, 97, 97, 0, 97, 0, 1, 98, 98, 0, 98, 0}, Synced: 6}) {
		t.Fatalf("%+v, %v", l, e)
	}
	l = wal.Crash(l, 0)
	if !alike(wal.Texts(l), [][]byte{{'a'}}) || !same(l, log(6, []byte{'a'})) {
		t.Errorf("%+v", l)
	}
}

// P4.2: of whatever a log has, whole frames or not.
func TestAppend(t *testing.T) {
	for _, b := range [][]byte{nil, {}, {9}, {2, 1, 2}, text(300), framed([]byte{1, 2}), join(framed(nil), framed(text(200))), make([]byte, 9000)} {
		for _, synced := range []int{0, len(b) / 2, len(b)} {
			l := api.Log{Bytes: b, Synced: synced}
			if x, e := wal.Append(l); !same(x, l) || e != api.OK {
				t.Errorf("%s, nothing: %s, %v", tell(l), tell(x), e)
			}
			for _, n := range sizes {
				want := api.Log{Bytes: join(b, framed(text(n))), Synced: synced}
				if x, e := wal.Append(l, text(n)); !same(x, want) || e != api.OK {
					t.Errorf("%s, %d: %s, %v", tell(l), n, tell(x), e)
				}
			}
			texts := [][]byte{{1}, nil, text(2000), {}, text(1999), {2, 3}, text(128), {1}}
			all, e := wal.Append(l, texts...)
			if want := (api.Log{Bytes: join(b, log(0, texts...).Bytes), Synced: synced}); !same(all, want) || e != api.OK {
				t.Errorf("%s, some: %s, %v", tell(l), tell(all), e)
			}
			for _, own := range texts {
				if l, e = wal.Append(l, own); e != api.OK {
					t.Errorf("%s, one by one: %v", tell(l), e)
				}
			}
			if !same(l, all) {
				t.Errorf("one by one: %s, at once: %s", tell(l), tell(all))
			}
		}
	}
}

// P4.2: a text that is too long, at each place, and alone; ahead of, and behind, what has no room.
func TestAppendOfTooLong(t *testing.T) {
	l := log(6, []byte{1}, []byte{2, 3})
	for _, n := range []int{2001, 2002, 16384, 65535, 65536, 1 << 20} {
		for _, others := range [][][]byte{nil, {{1}}, {nil, {4}, {}}, slices.Repeat([][]byte{text(2000)}, 10), slices.Repeat([][]byte{nil}, 5000)} {
			for _, at := range slices.Compact([]int{0, len(others) / 2, len(others)}) {
				texts := slices.Insert(slices.Clone(others), at, text(n))
				for _, own := range []api.Log{{}, l, {Bytes: make([]byte, 20000), Synced: 7}} {
					if x, e := wal.Append(own, texts...); !same(x, own) || e != api.ErrFrame {
						t.Errorf("%s, %d bytes at %d of %d: %s, %v", tell(own), n, at, len(texts), tell(x), e)
					}
				}
			}
		}
	}
}

// P4.2: to the last byte, and one more.
func TestAppendOfTooMuch(t *testing.T) {
	for _, n := range sizes {
		size := len(framed(text(n)))
		for _, synced := range []int{0, 3, 20000 - size} {
			l := api.Log{Bytes: text(20000 - size), Synced: synced}
			if x, e := wal.Append(l, text(n)); !same(x, api.Log{Bytes: join(l.Bytes, framed(text(n))), Synced: synced}) || e != api.OK {
				t.Errorf("%d, room for it: %s, %v", n, tell(x), e)
			}
			for _, more := range []int{1, 2, size - 1, size} {
				l := api.Log{Bytes: text(20000 - size + more), Synced: synced}
				if x, e := wal.Append(l, text(n)); !same(x, l) || e != api.ErrFull {
					t.Errorf("%d, %d of room missing: %s, %v", n, more, tell(x), e)
				}
			}
		}
	}
	full := api.Log{Bytes: text(20000), Synced: 20000}
	if x, e := wal.Append(full); !same(x, full) || e != api.OK {
		t.Errorf("nothing, to a full one: %s, %v", tell(x), e)
	}
}

// P4.2: with many texts all of them count, whichever have room by themselves.
func TestAppendOfTooMany(t *testing.T) {
	for name, c := range map[string]struct {
		room  int
		texts [][]byte
		err   api.Errno
	}{
		"all of it":               {17, [][]byte{nil, {1}, {2}}, api.OK},
		"a byte of room missing":  {16, [][]byte{nil, {1}, {2}}, api.ErrFull},
		"the last has none":       {12, [][]byte{{1}, {2}, nil}, api.ErrFull},
		"the first has none":      {9, [][]byte{text(5), nil}, api.ErrFull},
		"the middle has none":     {20, [][]byte{nil, text(100), nil}, api.ErrFull},
		"each has, both have not": {10, [][]byte{{1}, {1}}, api.ErrFull},
		"no text has bytes":       {9, [][]byte{nil, {}}, api.ErrFull},
		"no bytes, with room":     {10, [][]byte{nil, {}}, api.OK},
		"great ones, and room":    {20000, append(slices.Repeat([][]byte{text(2000)}, 9), text(1940)), api.OK},
		"great ones, and none":    {20000, append(slices.Repeat([][]byte{text(2000)}, 9), text(1941)), api.ErrFull},
		"4000 of 5, and room":     {20000, slices.Repeat([][]byte{nil}, 4000), api.OK},
		"4001 of 5, and none":     {20000, slices.Repeat([][]byte{nil}, 4001), api.ErrFull},
		"many, and far too much":  {20000, slices.Repeat([][]byte{text(2000)}, 1000), api.ErrFull},
	} {
		l := api.Log{Bytes: text(20000 - c.room), Synced: (20000 - c.room) / 2}
		want := l
		if c.err == api.OK {
			want.Bytes = join(l.Bytes, log(0, c.texts...).Bytes)
		}
		if x, e := wal.Append(l, c.texts...); !same(x, want) || e != c.err {
			t.Errorf("%s: %s, %v", name, tell(x), e)
		}
	}
}

// several are logs that may be: of frames, of frames cut, changed, and of other bytes; the texts are those of their whole frames, end is behind these.
var several = func() map[string]struct {
	b     []byte
	texts [][]byte
	end   int
} {
	some := [][]byte{{1}, nil, {2, 3}}
	b := log(0, some...).Bytes // frames up to 6, 11 and 18
	changed := bytes.Clone(b)
	changed[7] ^= 1
	return map[string]struct {
		b     []byte
		texts [][]byte
		end   int
	}{
		"nil":                   {nil, nil, 0},
		"none":                  {[]byte{}, nil, 0},
		"frames":                {b, some, 18},
		"frames, a byte behind": {join(b, []byte{9}), some, 18},
		"a frame cut":           {b[:17], some[:2], 11},
		"a frame begun":         {b[:12], some[:2], 11},
		"a length alone":        {b[:7], some[:1], 6},
		"one less than a frame": {b[:5], nil, 0},
		"a frame changed":       {changed, some[:1], 6},
		"other bytes":           {text(40), nil, 0},
		"bytes ahead":           {join([]byte{128}, b), nil, 0},
		"long":                  {join(log(0, slices.Repeat([][]byte{text(2000)}, 9)...).Bytes, text(1946)), slices.Repeat([][]byte{text(2000)}, 9), 18054},
	}
}()

// places are those of n bytes, at most some hundred of them, and the edges.
func places(n int) []int {
	l := []int{0, n, max(n-1, 0), min(1, n)}
	for i := 0; i < n; i += 1 + n/100 {
		l = append(l, i)
	}
	slices.Sort(l)
	return slices.Compact(l)
}

// P4.2, P4.4: whatever the bytes are.
func TestSyncAndTexts(t *testing.T) {
	for name, c := range several {
		for _, synced := range places(len(c.b)) {
			l := api.Log{Bytes: c.b, Synced: synced}
			if x := wal.Sync(l); !same(x, api.Log{Bytes: c.b, Synced: len(c.b)}) {
				t.Errorf("%s, %d: %s", name, synced, tell(x))
			}
			if x := wal.Texts(l); !alike(x, c.texts) {
				t.Errorf("%s, %d: %d texts", name, synced, len(x))
			}
		}
	}
}

// P4.3: all places of what is kept, and beyond, by all of what is synced.
func TestCrash(t *testing.T) {
	for name, c := range several {
		n := len(c.b)
		for _, synced := range places(n) {
			l := api.Log{Bytes: c.b, Synced: synced}
			for _, keep := range append(places(n), math.MinInt, math.MinInt32, -20001, -n, -1, n+1, 2*n, 20000, 20001, 1<<31, math.MaxInt) {
				end := keep
				if end > n {
					end = n
				}
				if end < synced {
					end = synced
				}
				if x := wal.Crash(l, keep); !same(x, api.Log{Bytes: c.b[:end], Synced: end}) {
					t.Errorf("%s, %d synced, %d kept: %s", name, synced, keep, tell(x))
				}
			}
		}
	}
}

// P4.3
func TestTrim(t *testing.T) {
	for name, c := range several {
		for _, synced := range append(places(len(c.b)), c.end) {
			want := api.Log{Bytes: c.b[:c.end], Synced: synced}
			if synced > c.end {
				want.Synced = c.end
			}
			x := wal.Trim(api.Log{Bytes: c.b, Synced: synced})
			if !same(x, want) || !alike(wal.Texts(x), c.texts) {
				t.Errorf("%s, %d synced: %s, %d texts", name, synced, tell(x), len(wal.Texts(x)))
			}
			if y := wal.Trim(x); !same(y, x) {
				t.Errorf("%s, %d synced, trimmed again: %s", name, synced, tell(y))
			}
		}
	}
}

// P4.5: texts, appended one by one, or some at once, with syncs by all choices, and a crash at whatever place.
func TestCrashes(t *testing.T) {
	texts := [][]byte{{1, 2}, nil, text(130), {7}}
	for choice := range 1 << (2 * len(texts)) {
		var l api.Log
		ends := []int{0} // behind how many bytes each number of texts is whole
		synced := 0      // how many texts are
		var some [][]byte
		for i, own := range texts {
			some = append(some, own)
			ends = append(ends, ends[i]+len(framed(own)))
			if choice>>(2*i)&1 == 0 {
				l, _ = wal.Append(l, some...)
				some = nil
			}
			if choice>>(2*i)&2 != 0 && len(some) == 0 {
				l = wal.Sync(l)
				synced = i + 1
			}
		}
		whole := len(texts) - len(some)
		if !alike(wal.Texts(l), texts[:whole]) || l.Synced != ends[synced] || len(l.Bytes) != ends[whole] {
			t.Fatalf("%b: %s", choice, tell(l))
		}
		for keep := -1; keep <= len(l.Bytes)+1; keep++ {
			left := synced
			for left < whole && ends[left+1] <= keep {
				left++
			}
			crashed := wal.Crash(l, keep)
			if x := wal.Texts(crashed); !alike(x, texts[:left]) || !wal.Check(crashed) {
				t.Fatalf("%b, %d kept: %d texts for %d", choice, keep, len(x), left)
			}
			again(t, crashed, texts[:left])
		}
	}
}

// again goes on behind a crash: a second one that keeps nothing takes nothing; what is trimmed takes texts again.
func again(t *testing.T, l api.Log, left [][]byte) {
	t.Helper()
	if x := wal.Crash(l, 0); !same(x, l) {
		t.Fatalf("a second crash: %s, of %s", tell(x), tell(l))
	}
	trimmed := wal.Trim(l)
	if want := log(0, left...); !bytes.Equal(trimmed.Bytes, want.Bytes) || trimmed.Synced != len(want.Bytes) {
		t.Fatalf("trimmed: %s, for %s", tell(trimmed), tell(want))
	}
	more, e := wal.Append(trimmed, []byte("more"))
	if e != api.OK || !alike(wal.Texts(more), append(slices.Clone(left), []byte("more"))) {
		t.Fatalf("%s, %v: %d texts", tell(more), e, len(wal.Texts(more)))
	}
	if x := wal.Crash(more, 0); !same(x, trimmed) {
		t.Fatalf("what was not synced stays: %s", tell(x))
	}
}

// calls are all that tell bytes, of a log and a text, each with its list.
var calls = map[string]func(l api.Log, own []byte) [][]byte{
	"Append":  func(l api.Log, own []byte) [][]byte { x, _ := wal.Append(l, own, own); return [][]byte{x.Bytes} },
	"nothing": func(l api.Log, own []byte) [][]byte { x, _ := wal.Append(l); return [][]byte{x.Bytes} },
	"Sync":    func(l api.Log, own []byte) [][]byte { return [][]byte{wal.Sync(l).Bytes} },
	"Crash":   func(l api.Log, own []byte) [][]byte { return [][]byte{wal.Crash(l, 9).Bytes} },
	"keeping": func(l api.Log, own []byte) [][]byte { return [][]byte{wal.Crash(l, math.MaxInt).Bytes} },
	"Trim":    func(l api.Log, own []byte) [][]byte { return [][]byte{wal.Trim(l).Bytes} },
	"Texts":   func(l api.Log, own []byte) [][]byte { return wal.Texts(l) },
	"Check": func(l api.Log, own []byte) [][]byte {
		wal.Check(l)
		return nil
	},
}

// R3, R4: nothing is written into what is handed in, or behind it, and no answer is a part of it; with an error neither.
func TestArgumentsStay(t *testing.T) {
	for name, call := range calls {
		for _, own := range [][]byte{{1}, text(300), text(2000), text(2001)} {
			for what, c := range several {
				for _, synced := range []int{0, len(c.b), -1} {
					b, x := roomy(c.b, text(50)), roomy(own, text(50))
					keptB, keptX := bytes.Clone(b[:cap(b)]), bytes.Clone(x[:cap(x)])
					for _, r := range call(api.Log{Bytes: b, Synced: synced}, x) {
						fill(r)
					}
					if !bytes.Equal(b[:cap(b)], keptB) || !bytes.Equal(x[:cap(x)], keptX) {
						t.Errorf("%s of %s, %d: what was handed in is changed", name, what, synced)
					}
				}
			}
		}
	}
}

// R4: what is answered stays, whatever becomes of what was handed in.
func TestAnswersStay(t *testing.T) {
	for name, call := range calls {
		for _, synced := range []int{0, 6, -1} {
			l := log(synced, []byte{1}, []byte{2, 3})
			own := []byte{4, 5}
			want := call(api.Log{Bytes: bytes.Clone(l.Bytes), Synced: synced}, bytes.Clone(own))
			got := call(l, own)
			fill(l.Bytes)
			fill(own)
			if !alike(got, want) {
				t.Errorf("%s, %d synced: %v", name, synced, got)
			}
		}
	}
}

// R4: the list of texts stays, and a text may stand in it again, or in the log, or in its spare room.
func TestTextsOfAppend(t *testing.T) {
	all := log(0, []byte{1, 2}, []byte{3, 4, 5}).Bytes
	kept := bytes.Clone(all)
	l := api.Log{Bytes: all[:7], Synced: 7}
	texts := append(make([][]byte, 0, 9), all[8:11], all[1:3], all[8:11], nil, all[0:15])
	spare := texts[:cap(texts)]
	want := log(7, []byte{1, 2}, kept[8:11], kept[1:3], kept[8:11], nil, kept)
	if x, e := wal.Append(l, texts...); !same(x, want) || e != api.OK {
		t.Errorf("%v, %v", x, e)
	}
	if !bytes.Equal(all, kept) {
		t.Errorf("the log is changed: %v", all)
	}
	if !alike(spare[:5], [][]byte{kept[8:11], kept[1:3], kept[8:11], nil, kept}) || !alike(spare[5:], make([][]byte, 4)) {
		t.Errorf("the list is changed: %v", spare)
	}
}

// R4: of an answer's texts none reaches another one; nor does a log that goes on two ways.
func TestListsApart(t *testing.T) {
	texts := [][]byte{{1, 2}, nil, text(300), {3}}
	l := log(7, texts...)
	for i := range texts {
		x := wal.Texts(l)
		fill(x[i])
		x[i] = append(x[i], 201, 202, 203, 204, 205, 206)
		for k := range texts {
			if k != i && !bytes.Equal(x[k], texts[k]) {
				t.Errorf("%d is changed by %d: %v", k, i, x[k])
			}
		}
	}
	for name, own := range map[string]api.Log{"appended": first(wal.Append(l, []byte{4})), "synced": wal.Sync(l), "crashed": wal.Crash(l, 20), "trimmed": wal.Trim(l)} {
		b := bytes.Clone(own.Bytes)
		one, e := wal.Append(own, []byte{8, 8})
		two, e2 := wal.Append(own, []byte{9, 9})
		if e != api.OK || e2 != api.OK || !bytes.Equal(one.Bytes, join(b, framed([]byte{8, 8}))) || !bytes.Equal(two.Bytes, join(b, framed([]byte{9, 9}))) || !bytes.Equal(own.Bytes, b) {
			t.Errorf("%s: %v, %v", name, one, two)
		}
	}
}

// first is a log without its error.
func first(l api.Log, _ api.Errno) api.Log { return l }

// R5: spare room, and what stands in it, is nothing to an answer: here it would make frames whole, or a log synced.
func TestSpareRoom(t *testing.T) {
	whole := log(0, []byte{1, 2}, nil, text(128), []byte{3}).Bytes
	for cut := range len(whole) {
		for _, synced := range []int{0, cut, cut + 1, len(whole)} {
			for name, call := range calls {
				got := call(api.Log{Bytes: whole[:cut], Synced: synced}, []byte{6})
				want := call(api.Log{Bytes: slices.Clip(bytes.Clone(whole[:cut])), Synced: synced}, []byte{6})
				if !alike(got, want) {
					t.Errorf("%s, cut at %d, %d synced: %v", name, cut, synced, got)
				}
			}
			if wal.Check(api.Log{Bytes: whole[:cut], Synced: synced}) != (synced <= cut) {
				t.Errorf("Check, cut at %d, %d synced", cut, synced)
			}
		}
	}
	full := api.Log{Bytes: make([]byte, 20000, 40000)}
	if x, e := wal.Append(full, nil); !same(x, full) || e != api.ErrFull {
		t.Errorf("%s, %v", tell(x), e)
	}
}

// R5: an answer hangs on its log alone, not on calls ahead, refused ones too.
func TestCallsApart(t *testing.T) {
	l := log(6, []byte{1}, []byte{2, 3}, text(200))
	for name, call := range calls {
		want := call(l, []byte{4})
		for other := range calls {
			for _, o := range wrong() {
				calls[other](o, text(2001))
			}
			for _, c := range several {
				calls[other](api.Log{Bytes: c.b}, text(2000))
			}
			if got := call(l, []byte{4}); !alike(got, want) {
				t.Fatalf("%s behind %s: %v", name, other, got)
			}
		}
	}
}
