package frame_test

import (
	"bytes"
	"slices"
	"testing"

	"banksman/api"
	"banksman/frame"
)

// with is n bytes x.
func with(n int, x byte) []byte { return bytes.Repeat([]byte{x}, n) }

// text is one of n bytes, that are not all alike.
func text(n int) []byte {
	b := make([]byte, n)
	for i := range b {
		b[i] = byte(i*37 + i/256*11 + 5)
	}
	return b
}

// join is lists of bytes, one behind the other, in new memory.
func join(l ...[]byte) []byte { return bytes.Join(l, nil) }

// roomy is b with bytes 77 in its spare room.
func roomy(b []byte) []byte {
	all := with(len(b)+16, 77)
	copy(all, b)
	return all[:len(b)]
}

// fill overwrites a list and its spare room.
func fill(b []byte) {
	b = b[:cap(b)]
	for i := range b {
		b[i] = 200
	}
}

// each calls f with all texts of up to most bytes, of those of some.
func each(some []byte, most int, f func(b []byte)) {
	var grow func(b []byte)
	grow = func(b []byte) {
		f(b)
		if len(b) == most {
			return
		}
		for _, x := range some {
			grow(append(bytes.Clone(b), x))
		}
	}
	grow(nil)
}

// behind are the four bytes of a text's sum: of its second part, a byte counts as often as there are bytes from it on.
func behind(t []byte) []byte {
	x, y := 0, 0
	for i, c := range t {
		x += int(c)
		y += (len(t) - i) * int(c)
	}
	x, y = x%65535, y%65535
	return []byte{byte(x % 256), byte(x / 256), byte(y % 256), byte(y / 256)}
}

// ahead are the bytes of a length below 16384.
func ahead(n int) []byte {
	if n < 128 {
		return []byte{byte(n)}
	}
	return []byte{byte(n%128 + 128), byte(n / 128)}
}

// framed is what Write should tell of t.
func framed(t []byte) []byte { return join(ahead(len(t)), t, behind(t)) }

// guess is what Read should tell of b: it tries all lengths.
func guess(b []byte) ([]byte, int, api.Errno) {
	for n := 0; n <= 2000 && n < len(b); n++ {
		h := len(ahead(n))
		if h+n > len(b) || !bytes.HasPrefix(b, ahead(n)) {
			continue
		}
		if f := framed(b[h : h+n]); bytes.HasPrefix(b, f) {
			return b[h : h+n], len(f), api.OK
		}
	}
	return nil, 0, api.ErrFrame
}

// guessAll is what All should tell of b, by guess.
func guessAll(b []byte) ([][]byte, int) {
	var l [][]byte
	end := 0
	for {
		t, size, e := guess(b[end:])
		if e != api.OK {
			return l, end
		}
		l = append(l, t)
		end += size
	}
}

// alike tells whether lists of texts are the same.
func alike(a, b [][]byte) bool { return slices.EqualFunc(a, b, bytes.Equal) }

// written are texts and their frames, worked out by hand: a sum of four bytes, and sums whose parts reach M, among them.
var written = map[string]struct{ t, b []byte }{
	"nil":             {nil, []byte{0, 0, 0, 0, 0}},
	"none":            {[]byte{}, []byte{0, 0, 0, 0, 0}},
	"a 0":             {[]byte{0}, []byte{1, 0, 0, 0, 0, 0}},
	"a 1":             {[]byte{1}, []byte{1, 1, 1, 0, 1, 0}},
	"a 255":           {[]byte{255}, []byte{1, 255, 255, 0, 255, 0}},
	"1 2":             {[]byte{1, 2}, []byte{2, 1, 2, 3, 0, 4, 0}},
	"2 1":             {[]byte{2, 1}, []byte{2, 2, 1, 3, 0, 5, 0}},
	"a sum of four":   {[]byte{255, 255, 100}, []byte{3, 255, 255, 100, 98, 2, 95, 5}},
	"127":             {with(127, 0), join([]byte{127}, with(131, 0))},
	"128":             {with(128, 0), join([]byte{128, 1}, with(132, 0))},
	"129, a 1 at end": {join(with(128, 0), []byte{1}), join([]byte{129, 1}, with(128, 0), []byte{1, 1, 0, 1, 0})},
	"x and y are M":   {with(257, 255), join([]byte{129, 2}, with(257, 255), []byte{0, 0, 0, 0})},
	"x is above M":    {with(258, 255), join([]byte{130, 2}, with(258, 255), []byte{255, 0, 255, 0})},
	"1999":            {with(1999, 0), join([]byte{207, 15}, with(2003, 0))},
	"2000":            {with(2000, 0), join([]byte{208, 15}, with(2004, 0))},
	"2000, a 1 ahead": {join([]byte{1}, with(1999, 0)), join([]byte{208, 15, 1}, with(1999, 0), []byte{1, 0, 208, 7})},
}

// P3.1
func TestWrite(t *testing.T) {
	for name, c := range written {
		if b, e := frame.Write(c.t); !bytes.Equal(b, c.b) || e != api.OK {
			t.Errorf("%s: %v, %v", name, b, e)
		}
	}
}

// P3.1: all lengths.
func TestWriteOfAll(t *testing.T) {
	for n := range 2001 {
		for name, own := range map[string][]byte{"mixed": text(n), "of 0": with(n, 0), "of 255": with(n, 255)} {
			if b, e := frame.Write(own); !bytes.Equal(b, framed(own)) || e != api.OK {
				t.Fatalf("%d bytes, %s: %d bytes, %v", n, name, len(b), e)
			}
		}
	}
}

// P3.1
func TestWriteWrong(t *testing.T) {
	for _, n := range []int{2001, 2002, 4000, 16383, 16384, 65535, 65536, 1 << 20} {
		if b, e := frame.Write(text(n)); len(b) != 0 || e != api.ErrFrame {
			t.Errorf("%d bytes: %d bytes, %v", n, len(b), e)
		}
	}
}

// P3.1, P3.3
func TestRead(t *testing.T) {
	for name, c := range written {
		for _, rest := range [][]byte{nil, {0}, {9}, {128, 128}, c.b, with(3000, 0), text(70000)} {
			x, n, e := frame.Read(join(c.b, rest))
			if !bytes.Equal(x, c.t) || n != len(c.b) || e != api.OK {
				t.Errorf("%s, %d bytes behind: %v, %d, %v", name, len(rest), x, n, e)
			}
		}
	}
}

// wrong are bytes that begin with no frame; those of a length that has other bytes, or is too great, have all the rest.
var wrong = map[string][]byte{
	"nil":                       nil,
	"none":                      {},
	"a length alone":            {0},
	"a length, cut":             {128},
	"no end of a length":        with(3000, 128),
	"0, in two bytes":           {128, 0, 0, 0, 0, 0},
	"0, in three bytes":         {128, 128, 0, 0, 0, 0, 0},
	"2, in two bytes":           {130, 0, 1, 2, 3, 0, 4, 0},
	"2, in three bytes":         {130, 128, 0, 1, 2, 3, 0, 4, 0},
	"2000, in three bytes":      join([]byte{208, 143, 0}, with(2004, 0)),
	"2001":                      framed(text(2001)),
	"2001 of 0":                 framed(with(2001, 0)),
	"2002":                      framed(text(2002)),
	"16383":                     framed(text(16383)),
	"16384":                     join([]byte{128, 128, 1}, with(16388, 0)),
	"65535":                     join([]byte{255, 255, 3}, with(65539, 0)),
	"65536":                     join([]byte{128, 128, 4}, with(65540, 0)),
	"2^31 - 1":                  join([]byte{255, 255, 255, 255, 7}, with(3000, 0)),
	"2^31":                      join([]byte{128, 128, 128, 128, 8}, with(3000, 0)),
	"2^35":                      join([]byte{128, 128, 128, 128, 128, 1}, with(3000, 0)),
	"no sum":                    {2, 1, 2},
	"a sum of three bytes":      {2, 1, 2, 3, 0, 4},
	"no sum, a frame behind":    {2, 1, 2, 0, 0, 0, 0, 0},
	"the highest first":         {2, 1, 2, 0, 4, 0, 3},
	"y ahead of x":              {2, 1, 2, 4, 0, 3, 0},
	"a part's highest first":    {2, 1, 2, 0, 3, 0, 4},
	"its length summed, too":    {2, 1, 2, 5, 0, 9, 0},
	"a sum ahead of the text":   {2, 3, 0, 4, 0, 1, 2},
	"a sum ahead of the length": {3, 0, 4, 0, 2, 1, 2},
	"a sum of 0":                {2, 1, 2, 0, 0, 0, 0},
	"x is M":                    join([]byte{129, 2}, with(257, 255), []byte{255, 255, 0, 0}),
	"y is M":                    join([]byte{129, 2}, with(257, 255), []byte{0, 0, 255, 255}),
	"a byte ahead":              {9, 2, 1, 2, 3, 0, 4, 0},
	"a 0 ahead":                 {0, 2, 1, 2, 3, 0, 4, 0},
}

// P3.1, P3.2
func TestReadWrong(t *testing.T) {
	for name, b := range wrong {
		if x, n, e := frame.Read(b); len(x) != 0 || n != 0 || e != api.ErrFrame {
			t.Errorf("%s: %d bytes, %d, %v", name, len(x), n, e)
		}
		if l, n := frame.All(b); len(l) != 0 || n != 0 {
			t.Errorf("%s: %d texts, %d", name, len(l), n)
		}
	}
}

// P3.1, P3.2: Read tells a text of just those bytes that begin with its frame, and All those of Read.
func TestReadOfAll(t *testing.T) {
	some := func(b []byte) {
		want, size, wantE := guess(b)
		if x, n, e := frame.Read(b); !bytes.Equal(x, want) || n != size || e != wantE {
			t.Errorf("Read(%v): %v, %d, %v", b, x, n, e)
		}
		texts, end := guessAll(b)
		if l, n := frame.All(b); !alike(l, texts) || n != end {
			t.Errorf("All(%v): %v, %d", b, l, n)
		}
	}
	each([]byte{0, 1}, 15, some)
	each([]byte{0, 1, 2}, 10, some)
	each([]byte{0, 1, 2, 3, 4, 255}, 7, some)
}

// P3.1: of a frame, all bytes in place of each one.
func TestReadOfOneByteChanged(t *testing.T) {
	for _, own := range [][]byte{nil, {0}, {255}, {1, 2}, text(40), with(257, 255), text(130)} {
		b := join(framed(own), framed([]byte{7, 8}))
		for i := range b {
			c := bytes.Clone(b)
			for y := range 256 {
				c[i] = byte(y)
				want, size, wantE := guess(c)
				if x, n, e := frame.Read(c); !bytes.Equal(x, want) || n != size || e != wantE {
					t.Errorf("%d bytes, %d at %d: %v, %d, %v", len(own), y, i, x, n, e)
				}
			}
		}
	}
}

// P3.1, P3.3: a changed byte of a text, or of its sum, is told, whatever it becomes.
func TestOneByteIsTold(t *testing.T) {
	for _, own := range [][]byte{nil, {1, 2}, text(127), text(128), with(257, 255), text(2000)} {
		b := framed(own)
		for i := len(ahead(len(own))); i < len(b); i++ {
			for _, d := range []byte{1, 4, 128, 255} {
				b[i] ^= d
				if x, n, e := frame.Read(b); len(x) != 0 || n != 0 || e != api.ErrFrame {
					t.Errorf("%d bytes, changed at %d by %d: %d bytes, %d, %v", len(own), i, d, len(x), n, e)
				}
				b[i] ^= d
			}
		}
	}
}

// P3.3: what is written is read, of all lengths, and no beginning of it but the whole.
func TestWrittenIsRead(t *testing.T) {
	for n := range 2001 {
		own := text(n)
		b, _ := frame.Write(own)
		if x, size, e := frame.Read(b); !bytes.Equal(x, own) || size != len(b) || e != api.OK {
			t.Fatalf("%d bytes: %d bytes, %d, %v", n, len(x), size, e)
		}
	}
	for _, n := range []int{0, 1, 2, 126, 127, 128, 129, 255, 1999, 2000} {
		for name, own := range map[string][]byte{"mixed": text(n), "of 0": with(n, 0), "of 255": with(n, 255)} {
			b, _ := frame.Write(own)
			for cut := range b {
				if x, size, e := frame.Read(b[:cut]); len(x) != 0 || size != 0 || e != api.ErrFrame {
					t.Fatalf("%d bytes, %s, cut at %d: %d bytes, %d, %v", n, name, cut, len(x), size, e)
				}
			}
		}
	}
}

// P3.2, P3.3: texts in frames, one behind the other, cut anywhere.
func TestAll(t *testing.T) {
	texts := [][]byte{{1, 2}, nil, text(127), {}, text(128), {0}, with(257, 255), nil, text(2000), {5}}
	var b []byte
	ends := []int{0}
	for _, own := range texts {
		f, _ := frame.Write(own)
		b = append(b, f...)
		ends = append(ends, len(b))
	}
	whole := 0
	for cut := range len(b) + 1 {
		if whole < len(texts) && cut == ends[whole+1] {
			whole++
		}
		if l, n := frame.All(b[:cut]); !alike(l, texts[:whole]) || n != ends[whole] {
			t.Fatalf("cut at %d: %d texts, %d", cut, len(l), n)
		}
	}
	for name, c := range wrong {
		if l, n := frame.All(join(b, c)); !alike(l, texts) || n != len(b) {
			t.Errorf("%s behind: %d texts, %d", name, len(l), n)
		}
	}
}

// P3.2: behind an error there is nothing more, whole frames though there be.
func TestAllUpToAnError(t *testing.T) {
	texts := [][]byte{{1}, {2, 3}, {4, 5, 6}, {7}}
	var b []byte
	ends := []int{0}
	for _, own := range texts {
		b = append(b, framed(own)...)
		ends = append(ends, len(b))
	}
	for k, own := range texts {
		for i := ends[k] + 1; i < ends[k+1]; i++ {
			c := bytes.Clone(b)
			c[i] ^= 64
			if l, n := frame.All(c); !alike(l, texts[:k]) || n != ends[k] {
				t.Errorf("%v, changed at %d: %v, %d", own, i, l, n)
			}
		}
		c := join(b[:ends[k]], []byte{128}, b[ends[k]:])
		if l, n := frame.All(c); !alike(l, texts[:k]) || n != ends[k] {
			t.Errorf("a byte ahead of %v: %v, %d", own, l, n)
		}
	}
}

// P3.2: many frames, and a text that is too long for one behind them.
func TestAllOfMany(t *testing.T) {
	if l, n := frame.All(with(1<<20+4, 0)); len(l) != (1<<20+4)/5 || n != len(l)*5 {
		t.Errorf("of 0: %d, %d", len(l), n)
	}
	var b []byte
	var texts [][]byte
	for n := range 2001 {
		texts = append(texts, text(n))
		b = append(b, framed(text(n))...)
	}
	if l, n := frame.All(join(b, framed(text(2001)), b)); !alike(l, texts) || n != len(b) {
		t.Errorf("of all lengths: %d, %d", len(l), n)
	}
}

// P3.2: All's texts are those that Read tells, one behind the other.
func TestAllIsByRead(t *testing.T) {
	b := join(framed([]byte{1}), framed(nil), framed(text(300)), framed([]byte{0, 0}), []byte{3, 1, 2})
	l, whole := frame.All(b)
	at := 0
	for i := 0; ; i++ {
		x, n, e := frame.Read(b[at:])
		if e != api.OK {
			if i != len(l) || at != whole || i != 4 {
				t.Errorf("%d texts, %d; All: %d texts, %d", i, at, len(l), whole)
			}
			break
		}
		if i >= len(l) || !bytes.Equal(x, l[i]) {
			t.Fatalf("%d: %v", i, x)
		}
		at += n
	}
}

// R4: nothing is written into what is handed in, or behind it, and no answer is a part of it.
func TestArgumentsStay(t *testing.T) {
	for name, call := range map[string]func(b []byte) [][]byte{
		"Write": func(b []byte) [][]byte { r, _ := frame.Write(b); return [][]byte{r} },
		"Read":  func(b []byte) [][]byte { r, _, _ := frame.Read(b); return [][]byte{r} },
		"All":   func(b []byte) [][]byte { r, _ := frame.All(b); return r },
	} {
		for _, own := range [][]byte{{}, {0}, with(5, 0), with(2010, 0), framed(text(5)), join(framed(text(5)), framed(text(9))), framed(text(2000)), text(50)} {
			b := roomy(own)
			kept := bytes.Clone(b[:cap(b)])
			for _, r := range call(b) {
				fill(r)
			}
			if !bytes.Equal(b[:cap(b)], kept) {
				t.Errorf("%s of %d bytes: they are changed", name, len(own))
			}
		}
	}
}

// R4: what is answered stays, whatever becomes of what was handed in.
func TestAnswersStay(t *testing.T) {
	own := roomy([]byte{1, 2})
	w, _ := frame.Write(own)
	fill(own)
	b := roomy(join(framed([]byte{1, 2}), framed([]byte{3})))
	x, _, _ := frame.Read(b)
	l, _ := frame.All(b)
	fill(b)
	if !bytes.Equal(w, []byte{2, 1, 2, 3, 0, 4, 0}) {
		t.Errorf("Write: %v", w)
	}
	if !bytes.Equal(x, []byte{1, 2}) {
		t.Errorf("Read: %v", x)
	}
	if !alike(l, [][]byte{{1, 2}, {3}}) {
		t.Errorf("All: %v", l)
	}
}

// R4: of All's texts none reaches another one, nor does the list of them.
func TestListsApart(t *testing.T) {
	texts := [][]byte{{1, 2}, nil, {3}, text(300), {4, 5, 6}}
	var b []byte
	for _, own := range texts {
		b = append(b, framed(own)...)
	}
	for i := range texts {
		l, _ := frame.All(b)
		other, _ := frame.All(b)
		fill(l[i])
		l[i] = append(l[i], 201, 202, 203, 204, 205, 206)
		for k := range texts {
			if k != i && !bytes.Equal(l[k], texts[k]) {
				t.Errorf("%d is changed by %d: %v", k, i, l[k])
			}
		}
		if !alike(other, texts) {
			t.Errorf("another call's are changed by %d: %v", i, other)
		}
	}
}

// R5: spare room, and what stands in it, is nothing to an answer: here it would make a frame whole.
func TestSpareRoom(t *testing.T) {
	for _, own := range [][]byte{nil, {1, 2}, text(128), text(2000)} {
		b := join(framed(own), framed([]byte{7}))
		for cut := range len(b) {
			x, n, e := frame.Read(b[:cut])
			x2, n2, e2 := frame.Read(bytes.Clone(b[:cut]))
			if !bytes.Equal(x, x2) || n != n2 || e != e2 {
				t.Errorf("%d bytes, cut at %d: %v, %d, %v", len(own), cut, x, n, e)
			}
			l, n := frame.All(b[:cut])
			l2, n2 := frame.All(bytes.Clone(b[:cut]))
			if !alike(l, l2) || n != n2 {
				t.Errorf("%d bytes, cut at %d: %v, %d", len(own), cut, l, n)
			}
		}
	}
	roomyOwn := roomy([]byte{1, 2})
	if b, e := frame.Write(roomyOwn); !bytes.Equal(b, []byte{2, 1, 2, 3, 0, 4, 0}) || e != api.OK {
		t.Errorf("%v, %v", b, e)
	}
}

// R5: an answer hangs on its bytes alone, not on calls ahead, refused ones too.
func TestCallsApart(t *testing.T) {
	b := join(framed([]byte{1, 2}), framed([]byte{3}))
	for _, other := range [][]byte{nil, {200}, with(100, 0), text(2001), b} {
		frame.Write(other)
		frame.Read(other)
		frame.All(other)
		if w, e := frame.Write([]byte{1, 2}); !bytes.Equal(w, b[:7]) || e != api.OK {
			t.Errorf("Write: %v, %v", w, e)
		}
		if x, n, e := frame.Read(b); !bytes.Equal(x, []byte{1, 2}) || n != 7 || e != api.OK {
			t.Errorf("Read: %v, %d, %v", x, n, e)
		}
		if l, n := frame.All(b); !alike(l, [][]byte{{1, 2}, {3}}) || n != len(b) {
			t.Errorf("All: %v, %d", l, n)
		}
	}
}
