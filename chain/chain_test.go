package chain_test

import (
	"bytes"
	"fmt"
	"math"
	"slices"
	"testing"

	"banksman/api"
	"banksman/chain"
)

// text is one of n bytes, that are not all alike.
func text(n int) []byte {
	b := make([]byte, n)
	for i := range b {
		b[i] = byte(i*37 + 5)
	}
	return b
}

// has is a version with a value; gone is one without.
func has(stamp int, value string) api.Version {
	return api.Version{Stamp: stamp, Value: []byte(value)}
}
func gone(stamp int) api.Version { return api.Version{Stamp: stamp, Gone: true} }

// alike tells whether versions are the same.
func alike(a, b []api.Version) bool {
	return slices.EqualFunc(a, b, func(x, y api.Version) bool {
		return x.Stamp == y.Stamp && x.Gone == y.Gone && bytes.Equal(x.Value, y.Value)
	})
}

// twin are versions in memory of their own.
func twin(l []api.Version) []api.Version {
	var own []api.Version
	for _, x := range l {
		own = append(own, api.Version{Stamp: x.Stamp, Gone: x.Gone, Value: append([]byte{}, x.Value...)})
	}
	return own
}

// behind are versions with more behind, in new memory.
func behind(l []api.Version, more ...api.Version) []api.Version {
	return append(twin(l), twin(more)...)
}

// roomy are versions in new memory, with others in the list's spare room, and bytes in that of each value.
func roomy(l, others []api.Version) []api.Version {
	all := behind(l, others...)
	for i, x := range all {
		all[i].Value = append(twin([]api.Version{x})[0].Value, text(40)...)[:len(x.Value)]
	}
	return all[:len(l)]
}

// whole are the versions of a list and its spare room, with the spare room of each value.
func whole(l []api.Version) []api.Version {
	all := twin(l[:cap(l)])
	for i, x := range l[:cap(l)] {
		all[i].Value = bytes.Clone(x.Value[:cap(x.Value)])
	}
	return all
}

// fill overwrites a list's bytes, and its spare room.
func fill(b []byte) {
	b = b[:cap(b)]
	for i := range b {
		b[i] = 200
	}
}

// spoil overwrites versions, their values, and all spare room.
func spoil(l []api.Version) {
	l = l[:cap(l)]
	for i := range l {
		fill(l[i].Value)
		l[i] = api.Version{Stamp: -7, Gone: true, Value: []byte{201}}
	}
}

// small are all lists of versions with stamps of 1 to 5: each stamp has none, a value, another one, an empty one, or is gone.
func small() [][]api.Version {
	all := [][]api.Version{nil}
	for stamp := 1; stamp <= 5; stamp++ {
		for _, l := range slices.Clone(all) {
			for _, x := range []api.Version{has(stamp, string(rune('a'+stamp))), has(stamp, "same"), has(stamp, ""), gone(stamp)} {
				all = append(all, behind(l, x))
			}
		}
	}
	return all
}

// others are lists that may be, of greater stamps and values, and longer.
func others() map[string][]api.Version {
	long := []api.Version{}
	for i := range 80 {
		x := api.Version{Stamp: 10 + 7*i, Gone: i%5 == 3}
		if !x.Gone {
			x.Value = text(i % 33)
		}
		long = append(long, x)
	}
	return map[string][]api.Version{
		"nothing":            {},
		"the least":          {has(1, "a")},
		"the greatest":       {has(math.MaxInt32, "a")},
		"the greatest, gone": {gone(math.MaxInt32)},
		"both ends":          {has(1, "a"), has(math.MaxInt32, "b")},
		"the last two":       {gone(math.MaxInt32 - 1), has(math.MaxInt32, "b")},
		"the longest values": {{Stamp: 3, Value: text(32)}, gone(4), {Stamp: 9, Value: text(31)}, {Stamp: 20, Value: make([]byte, 32)}},
		"gone, and again":    {gone(2), gone(4), has(6, "a"), gone(8), gone(9)},
		"gone, of no bytes":  {{Stamp: 2, Gone: true, Value: []byte{}}},
		"a value, a zero":    {has(2, "\x00"), has(3, "\x00\xff")},
		"many":               long,
	}
}

// everyone are all lists here that may be.
func everyone() [][]api.Version {
	all := small()
	for _, l := range others() {
		all = append(all, l)
	}
	return all
}

// wrong are lists that may not be.
func wrong() map[string][]api.Version {
	ok := []api.Version{has(2, "a"), gone(4), has(7, "b")}
	bad := map[string]api.Version{
		"stamp 0":             has(0, "c"),
		"stamp -1":            has(-1, "c"),
		"the least stamp":     has(math.MinInt, "c"),
		"stamp 2^31":          has(1<<31, "c"),
		"all of int":          has(math.MaxInt, "c"),
		"0, gone":             gone(0),
		"2^31, gone":          gone(1 << 31),
		"33 bytes":            {Stamp: 9, Value: text(33)},
		"far too long":        {Stamp: 9, Value: text(1 << 10)},
		"gone, a byte":        {Stamp: 9, Gone: true, Value: []byte{0}},
		"gone, 32 bytes":      {Stamp: 9, Gone: true, Value: text(32)},
		"gone, 33 bytes":      {Stamp: 9, Gone: true, Value: text(33)},
		"nothing":             {},
		"nothing but a value": {Value: []byte("c")},
	}
	all := map[string][]api.Version{
		"a stamp twice":         {has(4, "a"), has(4, "a")},
		"a stamp twice, gone":   {gone(4), gone(4)},
		"falling":               {has(4, "a"), has(3, "b")},
		"falling at last":       {has(1, "a"), has(2, "b"), has(5, "c"), has(4, "d")},
		"falling at first":      {has(2, "a"), has(1, "b"), has(3, "c"), has(4, "d")},
		"the same at last":      {has(1, "a"), has(2, "b"), has(2, "c")},
		"the first one, again":  {has(1, "a"), has(2, "b"), has(1, "c")},
		"two greatest":          {has(math.MaxInt32, "a"), has(math.MaxInt32, "b")},
		"up to -1":              {has(-3, "a"), has(-1, "b")},
		"from below 0 on":       {has(-3, "a"), has(1, "b")},
		"all beyond the limits": {gone(math.MinInt), has(math.MaxInt, "a")},
	}
	for name, x := range bad {
		all[name+", alone"] = []api.Version{x}
		for at := range len(ok) + 1 {
			all[fmt.Sprintf("%s, at %d", name, at)] = slices.Insert(twin(ok), at, x)
		}
		// Here nothing but the version itself is wrong, if its stamp may be.
		if x.Stamp == 9 {
			all[name+", in order"] = []api.Version{has(8, "a"), x, has(10, "b")}
		}
	}
	return all
}

// stamps are those to ask at: the edges, and those about l's own.
func stamps(l []api.Version) []int {
	s := []int{math.MinInt, math.MinInt32, -1, 0, 1, 2, 3, 4, 5, 6, 7, 99, math.MaxInt32 - 1, math.MaxInt32, 1 << 31, math.MaxInt}
	for _, x := range l {
		s = append(s, x.Stamp-1, x.Stamp, x.Stamp+1)
	}
	slices.Sort(s)
	return slices.Compact(s)
}

// at is the place of the version at a stamp, by going through all of them; -1 without one.
func at(l []api.Version, stamp int) int {
	place := -1
	for i, x := range l {
		if x.Stamp <= stamp {
			place = i
		}
	}
	return place
}

// P5.1
func TestCheck(t *testing.T) {
	for _, l := range everyone() {
		if !chain.Check(l) {
			t.Errorf("%v is refused", l)
		}
	}
	for name, l := range wrong() {
		if chain.Check(l) {
			t.Error(name)
		}
	}
	if !chain.Check(nil) || !chain.Check([]api.Version{}) {
		t.Error("none are refused")
	}
}

// P5.1: each limit of a version alone, to the last one.
func TestCheckOfOne(t *testing.T) {
	for _, stamp := range []int{math.MinInt, math.MinInt32, -1, 0, 1, 2, 60, 1 << 20, math.MaxInt32 - 1, math.MaxInt32, 1 << 31, 1<<31 + 1, 1 << 32, 1<<32 + 1, math.MaxInt} {
		for _, n := range []int{0, 1, 2, 16, 31, 32, 33, 34, 64, 255, 256, 288, 65536} {
			for _, out := range []bool{false, true} {
				want := stamp >= 1 && stamp <= 2147483647 && n <= 32 && (!out || n == 0)
				if ok := chain.Check([]api.Version{{Stamp: stamp, Gone: out, Value: text(n)}}); ok != want {
					t.Errorf("%d, gone %v, %d bytes: %v", stamp, out, n, ok)
				}
			}
		}
	}
}

// P5.1: two stamps, in all ways.
func TestCheckOfTwo(t *testing.T) {
	edges := []int{math.MinInt, -1, 0, 1, 2, 3, math.MaxInt32 - 1, math.MaxInt32, 1 << 31, math.MaxInt}
	for _, a := range edges {
		for _, b := range edges {
			want := 1 <= a && a < b && b <= math.MaxInt32
			if ok := chain.Check([]api.Version{has(a, "a"), has(b, "b")}); ok != want {
				t.Errorf("%d, %d: %v", a, b, ok)
			}
			if ok := chain.Check([]api.Version{gone(a), gone(b)}); ok != want {
				t.Errorf("%d, %d, gone: %v", a, b, ok)
			}
		}
	}
}

// P5.1: the chapter's example.
func TestExample(t *testing.T) {
	l := []api.Version{has(2, "a"), has(4, "b")}
	if v, is := chain.Read(l, 3); string(v) != "a" || !is {
		t.Errorf("%q, %v", v, is)
	}
	for stamp, want := range []string{"", "", "a", "a", "b", "b"} {
		if v, is := chain.Read(l, stamp); string(v) != want || is != (want != "") {
			t.Errorf("%d: %q, %v", stamp, v, is)
		}
		if is := chain.Newer(l, stamp); is != (stamp < 4) {
			t.Errorf("%d: newer: %v", stamp, is)
		}
	}
}

// P5.1
func TestReadAndNewer(t *testing.T) {
	for _, l := range everyone() {
		for _, stamp := range stamps(l) {
			var want []byte
			place := at(l, stamp)
			found := place >= 0 && !l[place].Gone
			if found {
				want = l[place].Value
			}
			if v, is := chain.Read(l, stamp); !bytes.Equal(v, want) || is != found {
				t.Fatalf("%v at %d: %q, %v", l, stamp, v, is)
			}
			newer := slices.ContainsFunc(l, func(x api.Version) bool { return x.Stamp > stamp })
			if is := chain.Newer(l, stamp); is != newer {
				t.Fatalf("%v, newer than %d: %v", l, stamp, is)
			}
		}
	}
}

// P5.1: an empty value is one, gone is none.
func TestEmptyValue(t *testing.T) {
	for _, x := range []api.Version{{Stamp: 1}, {Stamp: 1, Value: []byte{}}} {
		if v, is := chain.Read([]api.Version{x}, 1); len(v) != 0 || !is {
			t.Errorf("%q, %v", v, is)
		}
		x.Gone = true
		if v, is := chain.Read([]api.Version{x}, 1); len(v) != 0 || is {
			t.Errorf("gone: %q, %v", v, is)
		}
	}
}

// P5.1: of what may not be nothing is told, at no stamp.
func TestReadOfWrong(t *testing.T) {
	for name, l := range wrong() {
		for _, stamp := range stamps(l) {
			if v, is := chain.Read(l, stamp); len(v) != 0 || is {
				t.Errorf("%s, at %d: %q, %v", name, stamp, v, is)
			}
			if chain.Newer(l, stamp) {
				t.Errorf("%s, newer than %d", name, stamp)
			}
		}
	}
}

// P5.2
func TestInstall(t *testing.T) {
	for _, l := range everyone() {
		last := 0
		if len(l) > 0 {
			last = l[len(l)-1].Stamp
		}
		for _, stamp := range stamps(l) {
			for _, x := range []api.Version{has(stamp, "x"), has(stamp, ""), gone(stamp), {Stamp: stamp, Value: text(32)}, {Stamp: stamp, Gone: true, Value: []byte{}}} {
				want, err := l, api.ErrStamp
				switch {
				case stamp < 1 || stamp > math.MaxInt32:
					err = api.ErrArg
				case stamp > last:
					want, err = behind(l, x), api.OK
				}
				if m, e := chain.Install(l, x); !alike(m, want) || e != err {
					t.Fatalf("%v, with %v: %v, %v", l, x, m, e)
				}
			}
		}
	}
}

// P5.2: a version that may not be, whether its stamp rises or not.
func TestInstallOfWrong(t *testing.T) {
	for _, l := range [][]api.Version{nil, {}, {has(2, "a")}, {has(2, "a"), gone(4)}, {has(math.MaxInt32, "a")}} {
		for _, stamp := range []int{math.MinInt, -1, 0, 1, 2, 3, 4, 5, math.MaxInt32, 1 << 31, math.MaxInt} {
			for name, x := range map[string]api.Version{
				"33 bytes":       {Stamp: stamp, Value: text(33)},
				"far too long":   {Stamp: stamp, Value: text(1 << 16)},
				"gone, a byte":   {Stamp: stamp, Gone: true, Value: []byte{0}},
				"gone, 32 bytes": {Stamp: stamp, Gone: true, Value: text(32)},
				"gone, 33 bytes": {Stamp: stamp, Gone: true, Value: text(33)},
			} {
				if m, e := chain.Install(l, x); !alike(m, l) || e != api.ErrArg {
					t.Errorf("%v, with %s at %d: %v, %v", l, name, stamp, m, e)
				}
			}
		}
	}
}

// P5.2: versions that may not be are told as they are; ErrArg goes ahead of ErrStamp.
func TestInstallToWrong(t *testing.T) {
	for name, l := range wrong() {
		for _, stamp := range stamps(l) {
			for _, x := range []api.Version{has(stamp, "x"), gone(stamp), {Stamp: stamp, Value: text(33)}} {
				if m, e := chain.Install(l, x); !alike(m, l) || e != api.ErrArg {
					t.Errorf("%s, with %v: %v, %v", name, x, m, e)
				}
			}
		}
	}
}

// P5.2: what was installed one by one is there, at each stamp.
func TestInstallOneByOne(t *testing.T) {
	for _, all := range everyone() {
		var l []api.Version
		for i, x := range all {
			m, e := chain.Install(l, x)
			if e != api.OK || !alike(m, all[:i+1]) || !chain.Check(m) {
				t.Fatalf("%v, with %v: %v, %v", l, x, m, e)
			}
			v, is := chain.Read(m, x.Stamp)
			if !bytes.Equal(v, x.Value) || is == x.Gone || chain.Newer(m, x.Stamp) || !chain.Newer(m, x.Stamp-1) {
				t.Fatalf("%v: %q, %v", m, v, is)
			}
			if again, e := chain.Install(m, x); !alike(again, m) || e != api.ErrStamp {
				t.Fatalf("%v twice: %v, %v", x, again, e)
			}
			l = m
		}
	}
}

// P5.2
func TestVacuum(t *testing.T) {
	for _, l := range everyone() {
		for _, oldest := range stamps(l) {
			var want []api.Version
			place := at(l, oldest)
			for i, x := range l {
				if x.Stamp > oldest || i == place && !x.Gone {
					want = append(want, x)
				}
			}
			if m := chain.Vacuum(l, oldest); !alike(m, want) {
				t.Fatalf("%v from %d on: %v", l, oldest, m)
			}
		}
	}
	for name, l := range wrong() {
		for _, oldest := range stamps(l) {
			if m := chain.Vacuum(l, oldest); !alike(m, l) {
				t.Errorf("%s, from %d on: %v", name, oldest, m)
			}
		}
	}
}

// P5.3
func TestReadBehindVacuum(t *testing.T) {
	for _, l := range everyone() {
		for _, oldest := range stamps(l) {
			m := chain.Vacuum(l, oldest)
			if !chain.Check(m) {
				t.Fatalf("%v from %d on may not be: %v", l, oldest, m)
			}
			left := 0
			for _, x := range m {
				if x.Stamp <= oldest {
					left++
				}
			}
			if left > 1 {
				t.Fatalf("%v from %d on: %d not above it are left", l, oldest, left)
			}
			for _, stamp := range stamps(l) {
				if stamp < oldest {
					continue
				}
				v, is := chain.Read(l, stamp)
				if w, still := chain.Read(m, stamp); !bytes.Equal(v, w) || is != still {
					t.Fatalf("%v from %d on, at %d: %q, %v", l, oldest, stamp, w, still)
				}
				if chain.Newer(l, stamp) != chain.Newer(m, stamp) {
					t.Fatalf("%v from %d on, newer than %d: %v", l, oldest, stamp, chain.Newer(m, stamp))
				}
			}
		}
	}
}

// P5.3: once more, from the same stamp on, nothing goes; from a later one on what goes is what would have gone at once; and what is installed between stays.
func TestVacuumAgain(t *testing.T) {
	for _, l := range small() {
		for oldest := 0; oldest <= 6; oldest++ {
			m := chain.Vacuum(l, oldest)
			for later := oldest; later <= 7; later++ {
				if a, b := chain.Vacuum(m, later), chain.Vacuum(l, later); !alike(a, b) {
					t.Fatalf("%v from %d on, from %d on: %v, for %v", l, oldest, later, a, b)
				}
			}
			more, e := chain.Install(m, has(9, "x"))
			if v, is := chain.Read(more, 9); e != api.OK || string(v) != "x" || !is || !alike(chain.Vacuum(more, oldest), behind(m, has(9, "x"))) {
				t.Fatalf("%v from %d on, and more: %v, %v", l, oldest, more, e)
			}
		}
	}
}

// answer is what a call told: versions, or a value.
type answer struct {
	l     []api.Version
	value []byte
	told  string
}

// calls are all calls, of versions, a stamp and a value.
func calls(l []api.Version, stamp int, value []byte) map[string]answer {
	read, is := chain.Read(l, stamp)
	installed, e := chain.Install(l, api.Version{Stamp: stamp, Value: value})
	away, e2 := chain.Install(l, api.Version{Stamp: stamp, Gone: true, Value: value})
	return map[string]answer{
		"Check":         {told: fmt.Sprint(chain.Check(l))},
		"Read":          {value: read, told: fmt.Sprint(is)},
		"Newer":         {told: fmt.Sprint(chain.Newer(l, stamp))},
		"Install":       {l: installed, told: fmt.Sprint(e)},
		"Install, gone": {l: away, told: fmt.Sprint(e2)},
		"Vacuum":        {l: chain.Vacuum(l, stamp)},
	}
}

// tell is an answer in words.
func tell(a answer) string {
	s := fmt.Sprintf("%s %q", a.told, a.value)
	for _, x := range a.l {
		s += fmt.Sprintf(" %d %v %q", x.Stamp, x.Gone, x.Value)
	}
	return s
}

// some are a few lists, that may be, and that may not.
func some() [][]api.Version {
	l := [][]api.Version{nil, {}, {has(2, "a")}, {has(2, ""), has(3, "c")}, {gone(2)}, {has(1, "a"), has(2, "bb"), gone(5), has(7, "d")}}
	for _, x := range wrong() {
		l = append(l, x)
	}
	return l
}

// R3, R4: nothing is written into what is handed in, or its spare room, by the call or by who has the answer; with an error neither.
func TestArgumentsStay(t *testing.T) {
	for _, c := range some() {
		for _, stamp := range []int{-1, 0, 1, 2, 4, 6, 7, 8, 99, 1 << 31} {
			for _, n := range []int{0, 3, 32, 33} {
				l, value := roomy(c, []api.Version{has(50, "x"), gone(60)}), append(text(n), text(20)...)[:n]
				keptL, keptV := whole(l), bytes.Clone(value[:cap(value)])
				for _, a := range calls(l, stamp, value) {
					fill(a.value)
					spoil(a.l)
				}
				if !alike(whole(l), keptL) || !bytes.Equal(value[:cap(value)], keptV) {
					t.Errorf("%v at %d: what was handed in is changed", c, stamp)
				}
			}
		}
	}
}

// R4: what is answered stays, whatever becomes of what was handed in.
func TestAnswersStay(t *testing.T) {
	for _, c := range some() {
		for _, stamp := range []int{0, 2, 6, 9} {
			l, value := roomy(c, nil), text(5)
			got := calls(l, stamp, value)
			spoil(l)
			fill(value)
			for name, want := range calls(twin(c), stamp, text(5)) {
				if tell(got[name]) != tell(want) {
					t.Errorf("%v, %s at %d: %s for %s", c, name, stamp, tell(got[name]), tell(want))
				}
			}
		}
	}
}

// R4: no two values of one answer share memory, though they did when they were handed in; nor do two answers.
func TestListsApart(t *testing.T) {
	all := text(12)
	l := []api.Version{{Stamp: 1, Value: all[:4]}, {Stamp: 2, Value: all[:4]}, {Stamp: 3, Value: all[2:8]}, {Stamp: 4, Value: all}, {Stamp: 5, Value: all[:4]}}
	want := twin(l)
	lists := map[string]func() []api.Version{
		"Install": func() []api.Version {
			m, _ := chain.Install(l[:4], l[4])
			return m
		},
		"ErrStamp": func() []api.Version {
			m, _ := chain.Install(l, l[4])
			return m
		},
		"ErrArg": func() []api.Version {
			m, _ := chain.Install(l, api.Version{Value: all})
			return m
		},
		"Vacuum": func() []api.Version { return chain.Vacuum(l, 1) },
	}
	for name, list := range lists {
		for i := range want {
			m, other := list(), list()
			fill(m[i].Value)
			m[i].Value = append(m[i].Value, 201, 202)
			for k := range want {
				if k != i && !bytes.Equal(m[k].Value, want[k].Value) || !bytes.Equal(other[k].Value, want[k].Value) {
					t.Errorf("%s: %d is changed by %d", name, k, i)
				}
			}
		}
	}
	if !alike(l, want) || !bytes.Equal(all, text(12)) {
		t.Error("what was handed in is changed")
	}
}

// R4: versions go on two ways.
func TestTwoWays(t *testing.T) {
	l, _ := chain.Install(nil, has(1, "a"))
	for stamp := 2; stamp < 40; stamp++ {
		one, e := chain.Install(l, has(stamp, "one"))
		two, e2 := chain.Install(l, has(stamp+1, "two"))
		if e != api.OK || e2 != api.OK || !alike(one, behind(l, has(stamp, "one"))) || !alike(two, behind(l, has(stamp+1, "two"))) {
			t.Fatalf("%d: %v, %v", stamp, one, two)
		}
		l = one
	}
	v, is := chain.Read(l, 9)
	fill(v)
	if again, still := chain.Read(l, 9); string(again) != "one" || !is || !still {
		t.Errorf("a value is changed by an answer: %q", again)
	}
}

// R5: spare room, and what stands in it, is nothing to an answer: here it would be read, or be wrong.
func TestSpareRoom(t *testing.T) {
	for _, c := range some() {
		for _, others := range [][]api.Version{{has(3, "x")}, {has(20, "x"), has(30, "y")}, {gone(30)}, {has(0, "x")}, {{Stamp: 40, Value: text(33)}}} {
			for _, stamp := range stamps(c) {
				want := calls(slices.Clip(twin(c)), stamp, []byte("v"))
				for name, got := range calls(roomy(c, others), stamp, []byte("v")) {
					if tell(got) != tell(want[name]) {
						t.Fatalf("%v, %s at %d: %s for %s", c, name, stamp, tell(got), tell(want[name]))
					}
				}
			}
		}
	}
}

// R5: nothing is kept from call to call.
func TestNothingIsKept(t *testing.T) {
	lists := some()
	ask := func(i int) string {
		s := ""
		for _, stamp := range []int{0, 2, 5, 9} {
			got := calls(lists[i], stamp, []byte("v"))
			for _, name := range []string{"Check", "Read", "Newer", "Install", "Install, gone", "Vacuum"} {
				s += tell(got[name]) + "\n"
			}
		}
		return s
	}
	var first []string
	for i := range lists {
		first = append(first, ask(i))
	}
	for i := len(lists) - 1; i >= 0; i-- {
		if again := ask(i); again != first[i] {
			t.Errorf("%v: %s, ahead of it %s", lists[i], again, first[i])
		}
	}
}
