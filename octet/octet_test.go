package octet_test

import (
	"bytes"
	"math"
	"testing"

	"banksman/api"
	"banksman/octet"
)

// written are numbers and their bytes: each size's least and greatest one among them.
var written = []struct {
	n int
	b []byte
}{
	{0, []byte{0}},
	{1, []byte{1}},
	{127, []byte{127}},
	{128, []byte{128, 1}},
	{129, []byte{129, 1}},
	{255, []byte{255, 1}},
	{256, []byte{128, 2}},
	{300, []byte{172, 2}},
	{1<<14 - 1, []byte{255, 127}},
	{1 << 14, []byte{128, 128, 1}},
	{65535, []byte{255, 255, 3}},
	{65536, []byte{128, 128, 4}},
	{1<<21 - 1, []byte{255, 255, 127}},
	{1 << 21, []byte{128, 128, 128, 1}},
	{1<<28 - 1, []byte{255, 255, 255, 127}},
	{1 << 28, []byte{128, 128, 128, 128, 1}},
	{1<<31 - 2, []byte{254, 255, 255, 255, 7}},
	{1<<31 - 1, []byte{255, 255, 255, 255, 7}},
}

// noNumbers are bytes that begin with no number's.
var noNumbers = map[string][]byte{
	"nil":                     nil,
	"none":                    {},
	"cut behind one":          {128},
	"cut behind four":         {255, 255, 255, 255},
	"a last 0 of two":         {128, 0},
	"a last 0 behind a value": {129, 0},
	"a last 0 of five":        {255, 255, 255, 255, 0},
	"2^31":                    {128, 128, 128, 128, 8},
	"above 2^31":              {255, 255, 255, 255, 8},
	"2^32 and 1":              {129, 128, 128, 128, 16},
	"above 2^34":              {255, 255, 255, 255, 127},
	"six bytes":               {128, 128, 128, 128, 128, 1},
	"six bytes, a last 0":     {129, 128, 128, 128, 128, 0},
	"ten bytes":               {129, 128, 128, 128, 128, 128, 128, 128, 128, 1},
	"no end":                  bytes.Repeat([]byte{128}, 1000),
}

// roomy is b with bytes 77 in its spare room.
func roomy(b []byte) []byte {
	all := bytes.Repeat([]byte{77}, len(b)+16)
	copy(all, b)
	return all[:len(b)]
}

// fill overwrites a list and its spare room.
func fill(b []byte) {
	b = b[:cap(b)]
	for i := range b {
		b[i] = 200
	}
}

// P1.1
func TestNumber(t *testing.T) {
	for _, c := range written {
		for _, ahead := range [][]byte{nil, {}, {7}, {128, 128}, bytes.Repeat([]byte{9}, 300)} {
			want := append(bytes.Clone(ahead), c.b...)
			if b, e := octet.Number(ahead, c.n); !bytes.Equal(b, want) || e != api.OK {
				t.Errorf("Number(%v, %d): %v, %v", ahead, c.n, b, e)
			}
		}
	}
}

// P1.1
func TestNumberWrong(t *testing.T) {
	for _, n := range []int{-1, -128, math.MinInt32, math.MinInt, 1 << 31, 1<<31 + 1, 1 << 32, math.MaxInt} {
		if b, e := octet.Number([]byte{7}, n); len(b) != 0 || e != api.ErrOctet {
			t.Errorf("Number(7, %d): %v, %v", n, b, e)
		}
		if size := octet.Size(n); size != 0 {
			t.Errorf("Size(%d): %d", n, size)
		}
	}
}

// P1.1
func TestSize(t *testing.T) {
	for _, c := range written {
		if size := octet.Size(c.n); size != len(c.b) {
			t.Errorf("Size(%d): %d", c.n, size)
		}
	}
}

// P1.1
func TestTake(t *testing.T) {
	for _, c := range written {
		for _, behind := range [][]byte{nil, {0}, {1, 2}, {128}, {255, 255}, bytes.Repeat([]byte{128}, 300)} {
			b := append(bytes.Clone(c.b), behind...)
			if n, rest, e := octet.Take(b); n != c.n || !bytes.Equal(rest, behind) || e != api.OK {
				t.Errorf("Take(%v): %d, %v, %v", b, n, rest, e)
			}
		}
	}
}

// P1.1
func TestTakeWrong(t *testing.T) {
	for name, b := range noNumbers {
		if n, rest, e := octet.Take(b); n != 0 || len(rest) != 0 || e != api.ErrOctet {
			t.Errorf("%s: %d, %v, %v", name, n, rest, e)
		}
	}
}

// guess is what Take should tell of b, found by Number alone: it tries the number that the first bytes would be, as many as these are.
func guess(b []byte) (int, []byte, api.Errno) {
	n := 0
	for i := 0; i < len(b) && i < 5; i++ {
		n += int(b[i]&127) << (7 * i)
		if own, e := octet.Number(nil, n); e == api.OK && bytes.Equal(own, b[:i+1]) {
			return n, b[i+1:], api.OK
		}
	}
	return 0, nil, api.ErrOctet
}

// each calls f with all texts of up to most bytes, of those of some.
func each(some []byte, most int, f func(b []byte)) {
	var grow func(b []byte)
	grow = func(b []byte) {
		f(b)
		if len(b) == most {
			return
		}
		for _, x := range some {
			grow(append(bytes.Clone(b), x))
		}
	}
	grow(nil)
}

// P1.1, P1.3: Take tells a number of just those bytes that begin with a number's.
func TestTakeOfAll(t *testing.T) {
	each([]byte{0, 1, 7, 8, 127, 128, 255}, 6, func(b []byte) {
		n, rest, e := octet.Take(b)
		wantN, wantRest, wantE := guess(b)
		if n != wantN || !bytes.Equal(rest, wantRest) || e != wantE {
			t.Errorf("Take(%v): %d, %v, %v", b, n, rest, e)
		}
	})
}

// lengths are texts' lengths and the bytes that stand ahead of such a text.
var lengths = []struct {
	n int
	b []byte
}{
	{0, []byte{0}},
	{1, []byte{1}},
	{2, []byte{2}},
	{127, []byte{127}},
	{128, []byte{128, 1}},
	{16383, []byte{255, 127}},
	{16384, []byte{128, 128, 1}},
	{65534, []byte{254, 255, 3}},
	{65535, []byte{255, 255, 3}},
}

// text is one of n bytes, that are not all alike.
func text(n int) []byte {
	b := make([]byte, n)
	for i := range b {
		b[i] = byte(i*7 + i/256)
	}
	return b
}

// P1.2
func TestText(t *testing.T) {
	for _, c := range lengths {
		for _, ahead := range [][]byte{nil, {}, {9}, {128, 0, 255}} {
			want := append(append(bytes.Clone(ahead), c.b...), text(c.n)...)
			if b, e := octet.Text(ahead, text(c.n)); !bytes.Equal(b, want) || e != api.OK {
				t.Errorf("Text of %d bytes behind %v: %d bytes, %v", c.n, ahead, len(b), e)
			}
		}
	}
	if b, e := octet.Text([]byte{9}, nil); !bytes.Equal(b, []byte{9, 0}) || e != api.OK {
		t.Errorf("Text of nil: %v, %v", b, e)
	}
}

// P1.2
func TestTextWrong(t *testing.T) {
	for _, n := range []int{65536, 65537, 1 << 20} {
		if b, e := octet.Text([]byte{9}, make([]byte, n)); len(b) != 0 || e != api.ErrOctet {
			t.Errorf("Text of %d bytes: %d bytes, %v", n, len(b), e)
		}
	}
}

// P1.2
func TestTakeText(t *testing.T) {
	for _, c := range lengths {
		for _, behind := range [][]byte{nil, {0}, {128}, {1, 2, 3}} {
			b := append(append(bytes.Clone(c.b), text(c.n)...), behind...)
			x, rest, e := octet.TakeText(b)
			if !bytes.Equal(x, text(c.n)) || !bytes.Equal(rest, behind) || e != api.OK {
				t.Errorf("TakeText of %d bytes ahead of %v: %d bytes, %v, %v", c.n, behind, len(x), rest, e)
			}
		}
	}
}

// P1.2
func TestTakeTextWrong(t *testing.T) {
	wrong := map[string][]byte{
		"no byte of one":         {1},
		"one byte of two":        {2, 7},
		"a last 0":               {129, 0, 7},
		"127 of 128":             append([]byte{128, 1}, text(127)...),
		"65534 of 65535":         append([]byte{255, 255, 3}, text(65534)...),
		"65536, and all there":   append([]byte{128, 128, 4}, text(65536)...),
		"65537, and more there":  append([]byte{129, 128, 4}, text(65600)...),
		"2^31 - 1, and few":      {255, 255, 255, 255, 7, 1, 2, 3},
		"2^31, and few":          {128, 128, 128, 128, 8, 1, 2, 3},
		"2^32 and 1, and enough": {129, 128, 128, 128, 16, 1, 2, 3},
	}
	for name, b := range noNumbers {
		wrong["no number: "+name] = b
	}
	for name, b := range wrong {
		if x, rest, e := octet.TakeText(b); len(x) != 0 || len(rest) != 0 || e != api.ErrOctet {
			t.Errorf("%s: %d bytes, %d bytes, %v", name, len(x), len(rest), e)
		}
	}
}

// P1.2, P1.3: TakeText tells a text of just those bytes that begin with its Text.
func TestTakeTextOfAll(t *testing.T) {
	each([]byte{0, 1, 2, 3, 128, 255}, 6, func(b []byte) {
		var want, behind []byte
		wantE := api.ErrOctet
		for i := range len(b) {
			for j := i + 1; j <= len(b); j++ {
				if own, e := octet.Text(nil, b[i+1:j]); e == api.OK && bytes.Equal(own, b[:j]) {
					want, behind, wantE = b[i+1:j], b[j:], api.OK
				}
			}
		}
		x, rest, e := octet.TakeText(b)
		if !bytes.Equal(x, want) || !bytes.Equal(rest, behind) || e != wantE {
			t.Errorf("TakeText(%v): %v, %v, %v", b, x, rest, e)
		}
	})
}

// many are numbers of all sizes: small ones, those near a power of two, and some between.
func many() []int {
	var l []int
	for n := range 1 << 15 {
		l = append(l, n)
	}
	for i := 15; i <= 31; i++ {
		for d := -3; d <= 3; d++ {
			if n := 1<<i + d; n < 1<<31 {
				l = append(l, n)
			}
		}
	}
	for n := 1 << 15; n < 1<<31; n += 1<<15 + 12345 {
		l = append(l, n)
	}
	return l
}

// P1.3
func TestNumberIsRead(t *testing.T) {
	for _, n := range many() {
		own, e := octet.Number(nil, n)
		if e != api.OK || len(own) != octet.Size(n) {
			t.Fatalf("Number(nil, %d): %v, %v", n, own, e)
		}
		for _, behind := range [][]byte{nil, {0}, {127}, {128}, own} {
			got, rest, e := octet.Take(append(bytes.Clone(own), behind...))
			if got != n || !bytes.Equal(rest, behind) || e != api.OK {
				t.Fatalf("%d ahead of %v: %d, %v, %v", n, behind, got, rest, e)
			}
		}
	}
}

// P1.3
func TestTextIsRead(t *testing.T) {
	b := []byte{}
	for n := range 400 {
		var e api.Errno
		if b, e = octet.Text(b, text(n)); e != api.OK {
			t.Fatalf("Text of %d bytes: %v", n, e)
		}
	}
	for n := range 400 {
		x, rest, e := octet.TakeText(b)
		if !bytes.Equal(x, text(n)) || e != api.OK {
			t.Fatalf("TakeText of %d bytes: %d, %v", n, len(x), e)
		}
		b = rest
	}
	if len(b) != 0 {
		t.Errorf("%d bytes left", len(b))
	}
}

// P1.3
func TestNoNumberBeginsAnother(t *testing.T) {
	seen := map[string]int{}
	for _, n := range many() {
		b, _ := octet.Number(nil, n)
		seen[string(b)] = n
	}
	for s, n := range seen {
		for i := range len(s) {
			if other, ok := seen[s[:i]]; ok {
				t.Errorf("%d begins with %d", n, other)
			}
		}
	}
}

// R4: nothing is written into what is handed in, or behind it, and no answer is a part of it.
func TestArgumentsStay(t *testing.T) {
	for name, call := range map[string]func(b, x []byte) [][]byte{
		"Number":   func(b, x []byte) [][]byte { r, _ := octet.Number(b, 300); return [][]byte{r} },
		"Text":     func(b, x []byte) [][]byte { r, _ := octet.Text(b, x); return [][]byte{r} },
		"Take":     func(b, x []byte) [][]byte { _, r, _ := octet.Take(b); return [][]byte{r} },
		"TakeText": func(b, x []byte) [][]byte { r, rest, _ := octet.TakeText(b); return [][]byte{r, rest} },
	} {
		for _, own := range [][]byte{{}, {0}, {2}, {2, 3, 4, 5, 6}, {0, 1, 2}, {128, 1}} {
			b, x := roomy(own), roomy([]byte{5, 6})
			keptB, keptX := bytes.Clone(b[:cap(b)]), bytes.Clone(x[:cap(x)])
			for _, r := range call(b, x) {
				fill(r)
			}
			if !bytes.Equal(b[:cap(b)], keptB) || !bytes.Equal(x[:cap(x)], keptX) {
				t.Errorf("%s of %v: it is changed", name, own)
			}
		}
	}
}

// R4: what is answered stays, whatever becomes of what was handed in.
func TestAnswersStay(t *testing.T) {
	b := roomy([]byte{2, 3, 4, 5})
	number, _ := octet.Number(b, 300)
	own, _ := octet.Text(b, b)
	_, behind, _ := octet.Take(b)
	x, rest, _ := octet.TakeText(b)
	fill(b)
	for i, c := range []struct{ got, want []byte }{
		{number, []byte{2, 3, 4, 5, 172, 2}},
		{own, []byte{2, 3, 4, 5, 4, 2, 3, 4, 5}},
		{behind, []byte{3, 4, 5}},
		{x, []byte{3, 4}},
		{rest, []byte{5}},
	} {
		if !bytes.Equal(c.got, c.want) {
			t.Errorf("%d: %v", i, c.got)
		}
	}
}

// R4: of the two lists of TakeText neither reaches the other one.
func TestListsApart(t *testing.T) {
	b := []byte{2, 3, 4, 5, 6}
	x, rest, _ := octet.TakeText(b)
	fill(x)
	if !bytes.Equal(rest, []byte{5, 6}) {
		t.Errorf("rest: %v", rest)
	}
	x, rest, _ = octet.TakeText(b)
	fill(rest)
	if !bytes.Equal(x, []byte{3, 4}) {
		t.Errorf("text: %v", x)
	}
}

// R5: spare room, and what stands in it, is nothing to an answer.
func TestSpareRoom(t *testing.T) {
	each([]byte{0, 1, 2, 127, 128}, 4, func(b []byte) {
		n, rest, e := octet.Take(b)
		n2, rest2, e2 := octet.Take(roomy(b))
		if n != n2 || !bytes.Equal(rest, rest2) || e != e2 {
			t.Errorf("Take(%v): %d, %v, %v", b, n2, rest2, e2)
		}
		x, rest, e := octet.TakeText(b)
		x2, rest2, e2 := octet.TakeText(roomy(b))
		if !bytes.Equal(x, x2) || !bytes.Equal(rest, rest2) || e != e2 {
			t.Errorf("TakeText(%v): %v, %v, %v", b, x2, rest2, e2)
		}
	})
}
