package mode_test

import (
	"math"
	"slices"
	"strconv"
	"testing"

	"banksman/api"
	"banksman/mode"
)

// modes are all there are, from the least to the greatest.
func modes() []int { return []int{api.IS, api.IX, api.S, api.SIX, api.X} }

// others are numbers that are no modes: those beside the modes, those that look like one of them cut short, and the ends.
func others() []int {
	l := []int{0, -1, -2, -3, -4, -5, -6, 6, 7, 8, 9, 10, 25, 127, 128, 255, 256, math.MaxInt32, math.MinInt32, math.MaxInt, math.MinInt, math.MaxInt - 1, math.MinInt + 1}
	for _, m := range modes() {
		for _, bits := range []int{8, 16, 32, 62, 63} {
			l = append(l, m+1<<bits, m-1<<bits)
		}
	}
	return l
}

// numbers are both.
func numbers() []int { return slices.Concat(modes(), others()) }

// name is a mode's.
func name(m int) string {
	i := slices.Index(modes(), m)
	if i < 0 {
		return strconv.Itoa(m)
	}
	return []string{"IS", "IX", "S", "SIX", "X"}[i]
}

// names are several, of arguments.
func names(a, b int) string { return name(a) + ", " + name(b) }

// lets is what a mode lets: to read, and to write, nothing (0), some (1) or all (2), as the chapter's words say.
type lets struct{ read, write int }

// let is what m lets.
func let(m int) lets {
	switch m {
	case api.IS:
		return lets{1, 0}
	case api.IX:
		return lets{1, 1}
	case api.S:
		return lets{2, 0}
	case api.SIX:
		return lets{2, 1}
	}
	return lets{2, 2}
}

// The chapter's modes have these numbers, on which all tests here stand.
func TestNumbers(t *testing.T) {
	if !slices.Equal(modes(), []int{1, 2, 3, 4, 5}) {
		t.Errorf("%v", modes())
	}
	if slices.ContainsFunc(others(), func(m int) bool { return slices.Contains(modes(), m) }) {
		t.Errorf("%v", others())
	}
}

// P9.1: the table, as it is written.
func TestFits(t *testing.T) {
	for a, row := range map[int]string{
		api.IS:  "yes yes yes yes no ",
		api.IX:  "yes yes no  no  no ",
		api.S:   "yes no  yes no  no ",
		api.SIX: "yes no  no  no  no ",
		api.X:   "no  no  no  no  no ",
	} {
		for i, b := range modes() {
			if want := row[4*i] == 'y'; mode.Fits(a, b) != want {
				t.Errorf("%s: not %t", names(a, b), want)
			}
		}
	}
}

// P9.1: two fit, if neither may write what the other one may read or write, where one of both may do it all.
func TestFitsOfWords(t *testing.T) {
	hurts := func(a, b lets) bool { return a.write > 0 && b.read > 0 && a.write+b.read > 2 }
	for _, a := range modes() {
		for _, b := range modes() {
			want := !hurts(let(a), let(b)) && !hurts(let(b), let(a))
			if mode.Fits(a, b) != want {
				t.Errorf("%s: not %t", names(a, b), want)
			}
		}
	}
}

// P9.2: Covers, row by row.
func TestCovers(t *testing.T) {
	for a, all := range map[int][]int{
		api.IS:  {api.IS},
		api.IX:  {api.IS, api.IX},
		api.S:   {api.IS, api.S},
		api.SIX: {api.IS, api.IX, api.S, api.SIX},
		api.X:   {api.IS, api.IX, api.S, api.SIX, api.X},
	} {
		for _, b := range modes() {
			if want := slices.Contains(all, b); mode.Covers(a, b) != want {
				t.Errorf("%s: not %t", names(a, b), want)
			}
		}
	}
}

// P9.2: a mode covers those that let no more than it.
func TestCoversOfWords(t *testing.T) {
	for _, a := range modes() {
		for _, b := range modes() {
			x, y := let(a), let(b)
			if want := x.read >= y.read && x.write >= y.write; mode.Covers(a, b) != want {
				t.Errorf("%s: not %t", names(a, b), want)
			}
		}
	}
}

// P9.2: Join, row by row; the chapter's example is of these.
func TestJoin(t *testing.T) {
	for a, row := range map[int][]int{
		api.IS:  {api.IS, api.IX, api.S, api.SIX, api.X},
		api.IX:  {api.IX, api.IX, api.SIX, api.SIX, api.X},
		api.S:   {api.S, api.SIX, api.S, api.SIX, api.X},
		api.SIX: {api.SIX, api.SIX, api.SIX, api.SIX, api.X},
		api.X:   {api.X, api.X, api.X, api.X, api.X},
	} {
		for i, b := range modes() {
			if m := mode.Join(a, b); m != row[i] {
				t.Errorf("%s: %s", names(a, b), name(m))
			}
		}
	}
}

// P9.2: Join is the only mode that covers both, and is covered by each one that does.
func TestJoinIsTheOnlyOne(t *testing.T) {
	for _, a := range modes() {
		for _, b := range modes() {
			var both, least []int
			for _, m := range modes() {
				if mode.Covers(m, a) && mode.Covers(m, b) {
					both = append(both, m)
				}
			}
			for _, m := range both {
				if !slices.ContainsFunc(both, func(x int) bool { return !mode.Covers(x, m) }) {
					least = append(least, m)
				}
			}
			if j := mode.Join(a, b); !slices.Equal(least, []int{j}) {
				t.Errorf("%s: %s of %v", names(a, b), name(j), least)
			}
		}
	}
}

// P9.3: Above, of each.
func TestAbove(t *testing.T) {
	for m, want := range map[int]int{
		api.IS:  api.IS,
		api.IX:  api.IX,
		api.S:   api.IS,
		api.SIX: api.IX,
		api.X:   api.IX,
	} {
		if above := mode.Above(m); above != want {
			t.Errorf("%s: %s", name(m), name(above))
		}
	}
}

// P9.1 to P9.3: of a number that is no mode, on either side, or both, there is nothing.
func TestOthers(t *testing.T) {
	nothing := func(a, b int) {
		if mode.Fits(a, b) {
			t.Errorf("%s: fits", names(a, b))
		}
		if mode.Covers(a, b) {
			t.Errorf("%s: covers", names(a, b))
		}
		if j := mode.Join(a, b); j != 0 {
			t.Errorf("%s: %s", names(a, b), name(j))
		}
	}
	for _, a := range others() {
		if m := mode.Above(a); m != 0 {
			t.Errorf("%s: %s", name(a), name(m))
		}
		for _, b := range numbers() {
			nothing(a, b)
			nothing(b, a)
		}
	}
}

// P9.4: it does not matter which one is first.
func TestEitherFirst(t *testing.T) {
	for _, a := range numbers() {
		for _, b := range numbers() {
			if mode.Fits(a, b) != mode.Fits(b, a) {
				t.Errorf("%s: fits one way", names(a, b))
			}
			if mode.Join(a, b) != mode.Join(b, a) {
				t.Errorf("%s: %s, and %s", names(a, b), name(mode.Join(a, b)), name(mode.Join(b, a)))
			}
		}
	}
}

// P9.4: what covers a mode fits no more than it, a join of it among others; but for itself, it is not covered by what it covers.
func TestCoveringFitsNoMore(t *testing.T) {
	for _, b := range modes() {
		for _, a := range modes() {
			if !mode.Covers(mode.Join(a, b), b) {
				t.Errorf("%s: the join does not cover %s", names(a, b), name(b))
			}
			if !mode.Covers(a, b) {
				continue
			}
			if a != b && mode.Covers(b, a) {
				t.Errorf("%s: covers both ways", names(a, b))
			}
			for _, c := range modes() {
				if mode.Fits(a, c) && !mode.Fits(b, c) {
					t.Errorf("%s: fits more than %s", names(a, c), name(b))
				}
			}
		}
	}
}

// P9.4: a join is the same in whatever order, of three too, and of a mode with itself it is that.
func TestJoinInAnyOrder(t *testing.T) {
	for _, a := range modes() {
		if j := mode.Join(a, a); j != a {
			t.Errorf("%s: %s", name(a), name(j))
		}
		for _, b := range modes() {
			for _, c := range modes() {
				x, y := mode.Join(mode.Join(a, b), c), mode.Join(a, mode.Join(b, c))
				if x != y {
					t.Errorf("%s, %s: %s, and %s", names(a, b), name(c), name(x), name(y))
				}
			}
		}
	}
}

// P9.2, P9.3: what a mode needs above it rises with it: who holds more needs no less.
func TestAboveRises(t *testing.T) {
	for _, a := range modes() {
		for _, b := range modes() {
			if mode.Covers(a, b) && !mode.Covers(mode.Above(a), mode.Above(b)) {
				t.Errorf("%s: %s, and %s", names(a, b), name(mode.Above(a)), name(mode.Above(b)))
			}
		}
	}
}

// answer is what the calls answer of two numbers.
type answer struct {
	fits, covers bool
	join, above  int
}

// answers are those of all numbers, asked for in the order that is told.
func answers(order []int) map[[2]int]answer {
	all := map[[2]int]answer{}
	for _, a := range order {
		for _, b := range order {
			all[[2]int{a, b}] = answer{mode.Fits(a, b), mode.Covers(a, b), mode.Join(a, b), mode.Above(a)}
		}
	}
	return all
}

// R5: what was asked for ahead, and beside, does not matter.
func TestNothingElseMatters(t *testing.T) {
	first := answers(numbers())
	turned := numbers()
	slices.Reverse(turned)
	beside := make(chan map[[2]int]answer)
	for range 4 {
		go func() { beside <- answers(turned) }()
	}
	for range 4 {
		then := <-beside
		for _, a := range numbers() {
			for _, b := range numbers() {
				if x, y := first[[2]int{a, b}], then[[2]int{a, b}]; x != y {
					t.Errorf("%s: %v, and then %v", names(a, b), x, y)
				}
			}
		}
	}
}
