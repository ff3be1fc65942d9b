package sum_test

import (
	"bytes"
	"math"
	"math/big"
	"testing"

	"banksman/api"
	"banksman/sum"
)

const m = 65535

// whole is a sum of both parts.
func whole(x, y uint32) uint32 { return x + 65536*y }

// text is one of n bytes, that are not all alike.
func text(n int) []byte {
	b := make([]byte, n)
	for i := range b {
		b[i] = byte(i*37 + i/256*11 + 5)
	}
	return b
}

// with is n bytes x.
func with(n int, x byte) []byte { return bytes.Repeat([]byte{x}, n) }

// roomy is b with bytes 77 in its spare room.
func roomy(b []byte) []byte {
	all := with(len(b)+16, 77)
	copy(all, b)
	return all[:len(b)]
}

// guess is what Sum should tell of b, all at once: of y, a byte counts as often as there are bytes from it on.
func guess(b []byte) uint32 {
	x, y := uint64(0), uint64(0)
	for i, c := range b {
		x += uint64(c)
		y += uint64(len(b)-i) * uint64(c)
	}
	return whole(uint32(x%m), uint32(y%m))
}

// each calls f with all texts of up to most bytes, of those of some.
func each(some []byte, most int, f func(b []byte)) {
	var grow func(b []byte)
	grow = func(b []byte) {
		f(b)
		if len(b) == most {
			return
		}
		for _, x := range some {
			grow(append(bytes.Clone(b), x))
		}
	}
	grow(nil)
}

// P2.1: sums that are worked out by hand, those where a part reaches M among them.
func TestSum(t *testing.T) {
	for name, c := range map[string]struct {
		b    []byte
		x, y uint32
	}{
		"nil":                     {nil, 0, 0},
		"none":                    {[]byte{}, 0, 0},
		"a 0":                     {[]byte{0}, 0, 0},
		"a 1":                     {[]byte{1}, 1, 1},
		"a 127":                   {[]byte{127}, 127, 127},
		"a 128":                   {[]byte{128}, 128, 128},
		"a 255":                   {[]byte{255}, 255, 255},
		"1 2":                     {[]byte{1, 2}, 3, 4},
		"2 1":                     {[]byte{2, 1}, 3, 5},
		"1 0":                     {[]byte{1, 0}, 1, 2},
		"0 1":                     {[]byte{0, 1}, 1, 1},
		"a text":                  {[]byte("abcde"), 495, 1475},
		"y is M - 1":              {append([]byte{254}, with(257, 0)...), 254, 65532},
		"y is M":                  {append([]byte{255}, with(256, 0)...), 255, 0},
		"y is above M":            {append([]byte{255}, with(257, 0)...), 255, 255},
		"x is M - 1":              {append(with(256, 255), 254), 65534, 65534},
		"x is M":                  {with(257, 255), 0, 0},
		"x is above M":            {with(258, 255), 255, 255},
		"x is M - 1, then M":      {append(with(256, 255), 254, 1), 0, 65534},
		"x is M - 1, then above":  {append(with(256, 255), 254, 3), 2, 1},
		"a 1, 69999 behind":       {append([]byte{1}, with(69999, 0)...), 1, 4465},
		"a 1, 65534 behind":       {append([]byte{1}, with(65534, 0)...), 1, 0},
		"a 1, 65533 behind":       {append([]byte{1}, with(65533, 0)...), 1, 65534},
		"as many 255 as M has":    {with(65535, 255), 0, 0},
		"as many 1 as M has, - 1": {with(65534, 1), 65534, 0},
	} {
		if s := sum.Sum(c.b); s != whole(c.x, c.y) {
			t.Errorf("%s: %d, %d", name, s%65536, s/65536)
		}
	}
}

// P2.1
func TestSumOfAll(t *testing.T) {
	each([]byte{0, 1, 2, 127, 128, 254, 255}, 6, func(b []byte) {
		if s := sum.Sum(b); s != guess(b) {
			t.Errorf("Sum(%v): %d", b, s)
		}
	})
}

// P2.1: long texts, whose parts, summed up to the end, would be above 2^32.
func TestSumOfLong(t *testing.T) {
	for _, n := range []int{255, 256, 257, 258, 512, 4095, 4096, 4097, 5802, 5803, 65534, 65535, 65536, 65537, 131070, 300000, 1 << 20} {
		for name, b := range map[string][]byte{"mixed": text(n), "of 0": with(n, 0), "of 1": with(n, 1), "of 254": with(n, 254), "of 255": with(n, 255)} {
			if s := sum.Sum(b); s != guess(b) {
				t.Errorf("%d bytes, %s: %d, %d", n, name, s%65536, s/65536)
			}
		}
	}
}

// P2.1: both parts are below M, so that Join takes every sum.
func TestPartsBelow(t *testing.T) {
	b := with(2000, 255)
	for n := range len(b) + 1 {
		s := sum.Sum(b[:n])
		if s%65536 >= m || s/65536 >= m {
			t.Errorf("%d bytes: %d, %d", n, s%65536, s/65536)
		}
	}
}

// join is what Join should tell of sums that may be, in numbers of any size.
func join(ax, ay, bx, by uint32, n int) uint32 {
	left := func(z *big.Int) uint32 { return uint32(z.Mod(z, big.NewInt(m)).Uint64()) }
	x := new(big.Int).Add(big.NewInt(int64(ax)), big.NewInt(int64(bx)))
	y := new(big.Int).Mul(big.NewInt(int64(n)), big.NewInt(int64(ax)))
	y.Add(y, big.NewInt(int64(ay)))
	y.Add(y, big.NewInt(int64(by)))
	return whole(left(x), left(y))
}

// P2.2: joins that are worked out by hand; a place for each part, so that none is taken for another one.
func TestJoin(t *testing.T) {
	for i, c := range []struct {
		ax, ay, bx, by uint32
		n              int
		x, y           uint32
	}{
		{0, 0, 0, 0, 0, 0, 0},
		{0, 0, 0, 0, 1<<31 - 1, 0, 0},
		{1, 0, 0, 0, 0, 1, 0},
		{0, 1, 0, 0, 0, 0, 1},
		{0, 0, 1, 0, 0, 1, 0},
		{0, 0, 0, 1, 0, 0, 1},
		{1, 0, 0, 0, 5, 1, 5},
		{0, 1, 0, 0, 5, 0, 1},
		{0, 0, 1, 0, 5, 1, 0},
		{0, 0, 0, 1, 5, 0, 1},
		{3, 4, 7, 11, 2, 10, 21},
		{1, 1, 2, 2, 1, 3, 4},
		{65534, 0, 0, 0, 0, 65534, 0},
		{65534, 0, 1, 0, 0, 0, 0},
		{65534, 0, 2, 0, 0, 1, 0},
		{65534, 0, 65534, 0, 0, 65533, 0},
		{0, 65534, 0, 1, 0, 0, 0},
		{0, 65534, 0, 65534, 0, 0, 65533},
		{1, 0, 0, 0, 65534, 1, 65534},
		{1, 0, 0, 0, 65535, 1, 0},
		{1, 0, 0, 0, 65536, 1, 1},
		{1, 65534, 0, 1, 65534, 1, 65534},
		{1, 0, 0, 0, 1<<31 - 1, 1, 32767},
		{65534, 65534, 65534, 65534, 1<<31 - 1, 65533, 32766},
	} {
		s, e := sum.Join(whole(c.ax, c.ay), whole(c.bx, c.by), c.n)
		if s != whole(c.x, c.y) || e != api.OK {
			t.Errorf("%d: %d, %d, %v", i, s%65536, s/65536, e)
		}
	}
}

// P2.2: all sums of edges, with all sizes of edges.
func TestJoinOfAll(t *testing.T) {
	some := []uint32{0, 1, 2, 255, 256, 32767, 32768, 65533, 65534}
	sizes := []int{0, 1, 2, 255, 65534, 65535, 65536, 65537, 131070, 1<<24 + 3, 1 << 30, 1<<31 - 2, 1<<31 - 1}
	for _, ax := range some {
		for _, ay := range some {
			for _, bx := range some {
				for _, by := range some {
					for _, n := range sizes {
						s, e := sum.Join(whole(ax, ay), whole(bx, by), n)
						if s != join(ax, ay, bx, by, n) || e != api.OK {
							t.Fatalf("%d, %d and %d, %d, %d bytes: %d, %d, %v", ax, ay, bx, by, n, s%65536, s/65536, e)
						}
					}
				}
			}
		}
	}
}

// P2.2: sums of which one part, or both, are not below M, and sizes that are out of bounds.
func TestJoinWrong(t *testing.T) {
	good := []uint32{0, 1, whole(3, 4), whole(65534, 0), whole(0, 65534), whole(65534, 65534)}
	bad := []uint32{whole(65535, 0), whole(0, 65535), whole(65535, 1), whole(1, 65535), whole(65535, 65534), whole(65534, 65535), math.MaxUint32}
	sizes := []int{0, 1, 65535, 1<<31 - 1}
	wrong := []int{-1, -2, -65535, math.MinInt32, math.MinInt, 1 << 31, 1<<31 + 1, 1 << 32, 1<<32 + 1, 1 << 62, math.MaxInt}
	refused := func(a, b uint32, n int) {
		if s, e := sum.Join(a, b, n); s != 0 || e != api.ErrArg {
			t.Errorf("Join(%d, %d, %d): %d, %v", a, b, n, s, e)
		}
	}
	for _, x := range bad {
		for _, n := range append(sizes, wrong...) {
			for _, y := range append(good, bad...) {
				refused(x, y, n)
				refused(y, x, n)
			}
		}
	}
	for _, n := range wrong {
		for _, x := range good {
			for _, y := range good {
				refused(x, y, n)
			}
		}
	}
}

// P2.3: a text, cut anywhere.
func TestJoinIsThatOfBoth(t *testing.T) {
	texts := [][]byte{nil, {7}, {0, 0, 0}, text(700), with(700, 255), with(700, 0)}
	for _, b := range texts {
		for cut := range len(b) + 1 {
			s, e := sum.Join(sum.Sum(b[:cut]), sum.Sum(b[cut:]), len(b)-cut)
			if s != sum.Sum(b) || e != api.OK {
				t.Errorf("%d bytes, cut at %d: %d, %v", len(b), cut, s, e)
			}
		}
	}
	for _, b := range [][]byte{text(140000), with(140000, 255)} {
		for _, cut := range []int{0, 1, 4463, 4464, 4465, 4466, 65534, 65535, 65536, 74464, 74465, 74466, 131070, 139999, 140000} {
			s, e := sum.Join(sum.Sum(b[:cut]), sum.Sum(b[cut:]), len(b)-cut)
			if s != sum.Sum(b) || e != api.OK {
				t.Errorf("%d bytes, cut at %d: %d, %v", len(b), cut, s, e)
			}
		}
	}
}

// P2.3: three texts, joined from either side.
func TestJoinOfThree(t *testing.T) {
	a, b, c := text(300), with(258, 255), text(77)
	all := sum.Sum(bytes.Join([][]byte{a, b, c}, nil))
	first, _ := sum.Join(sum.Sum(a), sum.Sum(b), len(b))
	if s, e := sum.Join(first, sum.Sum(c), len(c)); s != all || e != api.OK {
		t.Errorf("from the first on: %d, %v", s, e)
	}
	last, _ := sum.Join(sum.Sum(b), sum.Sum(c), len(c))
	if s, e := sum.Join(sum.Sum(a), last, len(b)+len(c)); s != all || e != api.OK {
		t.Errorf("from the last on: %d, %v", s, e)
	}
}

// P2.3: no text has the sum of one that differs from it by one byte; all bytes for all.
func TestOneByteIsTold(t *testing.T) {
	for _, n := range []int{1, 2, 3, 257, 300} {
		for _, i := range []int{0, n / 2, n - 1} {
			b := text(n)
			seen := map[uint32]int{}
			for x := range 256 {
				b[i] = byte(x)
				s := sum.Sum(b)
				if other, ok := seen[s]; ok {
					t.Errorf("%d bytes: %d and %d at %d", n, other, x, i)
				}
				seen[s] = x
			}
		}
	}
}

// P2.3: behind a byte at 0 there are here as many as M has, with it, so that only x tells it.
func TestOneByteIsToldByX(t *testing.T) {
	b := text(m)
	for _, x := range []byte{0, 1, 128, 254, 255} {
		other := bytes.Clone(b)
		other[0] = x
		if x != b[0] && sum.Sum(other) == sum.Sum(b) {
			t.Errorf("%d in place of %d", x, b[0])
		}
	}
}

// R4, R5: a text is not changed, and what stands in its spare room is nothing to its sum.
func TestTextStays(t *testing.T) {
	for _, own := range [][]byte{{}, {0}, {1, 2}, with(258, 255), text(500)} {
		b := roomy(own)
		kept := bytes.Clone(b[:cap(b)])
		if s := sum.Sum(b); s != sum.Sum(bytes.Clone(own)) {
			t.Errorf("%d bytes: %d", len(own), s)
		}
		if !bytes.Equal(b[:cap(b)], kept) {
			t.Errorf("%d bytes: they are changed", len(own))
		}
	}
}

// R5: a sum hangs on its text alone, not on calls ahead, refused ones too.
func TestCallsApart(t *testing.T) {
	b := text(400)
	want := sum.Sum(b)
	for _, other := range [][]byte{nil, {255}, with(300, 255), b} {
		sum.Sum(other)
		sum.Join(whole(65535, 0), 0, -1)
		sum.Join(whole(65534, 65534), 1, 1<<31-1)
		if s := sum.Sum(b); s != want {
			t.Errorf("behind %d bytes: %d", len(other), s)
		}
	}
}
