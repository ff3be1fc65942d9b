package tree_test

import (
	"fmt"
	"math"
	"math/bits"
	"reflect"
	"runtime"
	"slices"
	"sort"
	"strings"
	"testing"

	"banksman/api"
	"banksman/tree"
)

// of are versions that hang on a text alone: of other texts they are others.
func of(key string) []api.Version {
	l := []api.Version{{Stamp: 2 + len(key), Value: []byte(key)}, {Stamp: 30, Gone: true}, {Stamp: 31, Value: []byte("v" + key)}}
	return l[:1+len(key)%3]
}

// leaf is a node of keys, each with versions; node is one with kids.
func leaf(keys ...string) api.Node {
	var n api.Node
	for _, k := range keys {
		n.Keys = append(n.Keys, []byte(k))
		n.Chains = append(n.Chains, of(k))
	}
	return n
}
func node(keys string, kids ...api.Node) api.Node {
	n := leaf(strings.Split(keys, "")...)
	n.Kids = kids
	return n
}

// pair is a key, and what is said of its versions.
type pair struct{ key, versions string }

// tellVersions is what there is to say of versions; tell of an index, its form in it.
func tellVersions(l []api.Version) string {
	var b strings.Builder
	for _, x := range l {
		fmt.Fprintf(&b, "%d %v %q ", x.Stamp, x.Gone, x.Value)
	}
	return b.String()
}
func tell(n api.Node) string {
	var b strings.Builder
	for _, k := range n.Keys {
		fmt.Fprintf(&b, "%q ", k)
	}
	for _, l := range n.Chains {
		fmt.Fprintf(&b, "<%s> ", tellVersions(l))
	}
	for _, kid := range n.Kids {
		fmt.Fprintf(&b, "(%s) ", tell(kid))
	}
	return b.String()
}

// look is an index gone through in order, as far as its numbers of keys, versions and kids let it: the pairs, the depths of leaves, and whether each node may be, its keys' order aside.
type look struct {
	pairs  []pair
	leaves map[int]bool
	fine   bool
}

func (k *look) node(n api.Node, deep int) {
	keys, kids := len(n.Keys), len(n.Kids)
	least := 1
	if deep == 1 && kids == 0 {
		least = 0
	}
	if keys < least || keys > 3 || len(n.Chains) != keys || kids != 0 && kids != keys+1 {
		k.fine = false
		return
	}
	if kids == 0 {
		k.leaves[deep] = true
	}
	for i := range keys + 1 {
		if kids > 0 {
			k.node(n.Kids[i], deep+1)
		}
		if i < keys {
			k.pairs = append(k.pairs, pair{string(n.Keys[i]), tellVersions(n.Chains[i])})
			k.fine = k.fine && len(n.Keys[i]) <= 16 && versionsMayBe(n.Chains[i])
		}
	}
}

// versionsMayBe tells whether versions may stand in an index.
func versionsMayBe(l []api.Version) bool {
	last := 0
	for _, x := range l {
		if x.Stamp <= last || x.Stamp > math.MaxInt32 || len(x.Value) > 32 || x.Gone && len(x.Value) > 0 {
			return false
		}
		last = x.Stamp
	}
	return len(l) > 0
}

// looked are the pairs of an index, and its depth; false if it may not be.
func looked(n api.Node) ([]pair, int, bool) {
	k := look{leaves: map[int]bool{}, fine: true}
	k.node(n, 1)
	rising := true
	for i, p := range k.pairs {
		rising = rising && (i == 0 || k.pairs[i-1].key < p.key)
	}
	if !k.fine || !rising || len(k.leaves) != 1 {
		return nil, 0, false
	}
	for d := range k.leaves {
		return k.pairs, d, true
	}
	return nil, 0, false
}

// with are pairs with one more, or another one in its place; less are pairs without a key.
func with(l []pair, p pair) []pair {
	i := sort.Search(len(l), func(i int) bool { return l[i].key >= p.key })
	if i < len(l) && l[i].key == p.key {
		return slices.Concat(l[:i], []pair{p}, l[i+1:])
	}
	return slices.Concat(l[:i], []pair{p}, l[i:])
}
func less(l []pair, key string) []pair {
	return slices.DeleteFunc(slices.Clone(l), func(p pair) bool { return p.key == key })
}

// form is how many keys a node has, and what its kids are.
type form struct {
	keys int
	kids []form
}

// build makes an index of a form, of two bytes a key: the n-th key's number is 2n+1, so that there is a number ahead of each, and behind.
func build(f form) api.Node {
	count := 0
	var fill func(f form) api.Node
	fill = func(f form) api.Node {
		var n api.Node
		for i := range f.keys + 1 {
			if f.kids != nil {
				n.Kids = append(n.Kids, fill(f.kids[i]))
			}
			if i < f.keys {
				k := name(2*count + 1)
				n.Keys, n.Chains = append(n.Keys, []byte(k)), append(n.Chains, of(k))
				count++
			}
		}
		return n
	}
	return fill(f)
}

// name is a number as two bytes.
func name(n int) string { return string([]byte{byte(n >> 8), byte(n)}) }

// over are all forms of so many keys, with kids out of those that are given.
func over(keys int, kids []form) []form {
	rows := [][]form{{}}
	for range keys + 1 {
		var longer [][]form
		for _, r := range rows {
			for _, k := range kids {
				longer = append(longer, slices.Concat(r, []form{k}))
			}
		}
		rows = longer
	}
	var all []form
	for _, r := range rows {
		all = append(all, form{keys, r})
	}
	return all
}

// alike is a form of a depth, each node of which has so many keys.
func alike(keys, deep int) form {
	f := form{keys: keys}
	for range deep - 1 {
		f = form{keys, slices.Repeat([]form{f}, keys+1)}
	}
	return f
}

// forms are all of a depth of 1 and 2, many of 3, and those of 4 that have as few keys as may be, and nearly so, and as many.
func forms() []form {
	leaves := []form{{keys: 1}, {keys: 2}, {keys: 3}}
	all := append([]form{{}}, leaves...)
	for keys := 1; keys <= 3; keys++ {
		all = append(all, over(keys, leaves)...)
	}
	one, two, three := alike(1, 2), alike(2, 2), alike(3, 2)
	mixed := []form{{2, []form{{keys: 1}, {keys: 3}, {keys: 1}}}, {3, []form{{keys: 1}, {keys: 1}, {keys: 1}, {keys: 1}}}}
	all = append(all, over(1, slices.Concat(over(1, leaves), mixed, []form{two, three}))...)
	all = append(all, over(2, append(mixed, one, three))...)
	all = append(all, over(3, []form{one, two, mixed[1]})...)
	all = append(all, alike(3, 3), alike(3, 4), alike(1, 5))
	return append(all, over(1, []form{alike(1, 3), alike(2, 3), {1, []form{one, three}}, {1, []form{three, one}}, {1, []form{one, two}}})...)
}

// others are indexes that may be, of other keys.
func others() map[string]api.Node {
	long := strings.Repeat("k", 16)
	return map[string]api.Node{
		"nothing":          {},
		"empty lists":      {Keys: [][]byte{}, Chains: [][]api.Version{}, Kids: []api.Node{}},
		"a leaf, no kids":  {Keys: [][]byte{[]byte("a")}, Chains: [][]api.Version{of("a")}, Kids: []api.Node{}},
		"the empty key":    leaf(""),
		"a key that's nil": {Keys: [][]byte{nil}, Chains: [][]api.Version{of("")}},
		"the longest key":  leaf(long),
		"beginnings":       {Keys: [][]byte{[]byte("a")}, Chains: [][]api.Version{of("a")}, Kids: []api.Node{leaf(""), leaf("a\x00", "aa", "ab")}},
		"long ones":        {Keys: [][]byte{[]byte(long)}, Chains: [][]api.Version{of("")}, Kids: []api.Node{leaf(long[1:]), leaf(long[1:] + "l")}},
		"highest bits":     node("\x7f", leaf("\x00", "\x7e"), leaf("\x7f\x00", "\x80", "\xff")),
		"many versions":    {Keys: [][]byte{[]byte("a")}, Chains: [][]api.Version{{{Stamp: 1, Gone: true}, {Stamp: 2, Value: make([]byte, 32)}, {Stamp: math.MaxInt32}}}},
		"all are alike":    {Keys: [][]byte{[]byte("a"), []byte("b")}, Chains: [][]api.Version{of("x"), of("x")}},
	}
}

// indexes are all here that may be.
func indexes() []api.Node {
	var all []api.Node
	for _, f := range forms() {
		all = append(all, build(f))
	}
	for _, n := range others() {
		all = append(all, n)
	}
	return all
}

// wrong are indexes that may not be, each for one reason.
func wrong() map[string]api.Node {
	all := map[string]api.Node{
		"more keys than versions":       {Keys: leaf("a", "b").Keys, Chains: leaf("a").Chains},
		"fewer keys than versions":      {Keys: leaf("a").Keys, Chains: leaf("a", "b").Chains},
		"keys alone":                    {Keys: leaf("a").Keys},
		"versions alone":                {Chains: leaf("a").Chains},
		"kids alone":                    {Kids: []api.Node{leaf("a")}},
		"kids alone, two":               {Kids: []api.Node{leaf("a"), leaf("b")}},
		"an empty kid alone":            {Kids: []api.Node{{}}},
		"as many kids as keys":          node("b", leaf("a")),
		"as many kids as two keys":      node("bd", leaf("a"), leaf("c")),
		"two kids too many":             node("b", leaf("a"), leaf("c"), leaf("d")),
		"one kid, three keys":           node("bdf", leaf("a")),
		"four keys":                     leaf("a", "b", "c", "d"),
		"four keys, with kids":          node("bdfh", leaf("a"), leaf("c"), leaf("e"), leaf("g"), leaf("i")),
		"four keys in the first kid":    node("e", leaf("a", "b", "c", "d"), leaf("f")),
		"four keys in the last kid":     node("b", leaf("a"), leaf("c", "d", "e", "f")),
		"the first kid is empty":        node("b", api.Node{}, leaf("c")),
		"the last kid is empty":         node("b", leaf("a"), api.Node{}),
		"a kid between is empty":        node("bd", leaf("a"), api.Node{}, leaf("e")),
		"a kid with one kid":            node("b", api.Node{Kids: []api.Node{leaf("a")}}, node("d", leaf("c"), leaf("e"))),
		"a root, a kid, a kid":          {Kids: []api.Node{{Kids: []api.Node{leaf("a")}}}},
		"the first kid is deeper":       node("d", node("b", leaf("a"), leaf("c")), leaf("e")),
		"the last kid is deeper":        node("b", leaf("a"), node("d", leaf("c"), leaf("e"))),
		"a kid between is deeper":       node("bf", leaf("a"), node("d", leaf("c"), leaf("e")), leaf("g")),
		"a kid between is a leaf":       node("dh", node("b", leaf("a"), leaf("c")), leaf("f"), node("j", leaf("i"), leaf("k"))),
		"a kid's kid is deeper":         node("h", node("b", leaf("a"), node("d", leaf("c"), leaf("e"))), node("j", leaf("i"), leaf("k"))),
		"a key twice":                   leaf("a", "a"),
		"a key twice, behind one":       leaf("a", "b", "b"),
		"the empty key twice":           leaf("", ""),
		"keys fall":                     leaf("b", "a"),
		"keys fall at last":             leaf("a", "c", "b"),
		"keys fall at first":            leaf("b", "a", "c"),
		"highest bits fall":             leaf("\x80", "\x7f"),
		"longer ones fall":              leaf("ab", "a"),
		"keys with kids fall":           node("ba", leaf("0"), leaf("1"), leaf("c")),
		"a key of the first kid, too":   node("b", leaf("a", "b"), leaf("c")),
		"a key of the last kid, too":    node("b", leaf("a"), leaf("b", "c")),
		"a key of a kid between, too":   node("bd", leaf("a"), leaf("c", "d"), leaf("e")),
		"the first kid goes too far":    node("b", leaf("a", "c"), leaf("d")),
		"the last kid begins too early": node("c", leaf("a"), leaf("b", "d")),
		"kids the other way round":      node("b", leaf("c"), leaf("a")),
		"a kid between is behind":       node("bd", leaf("a"), leaf("e"), leaf("f")),
		"a kid between is ahead":        node("bd", leaf("0"), leaf("a"), leaf("e")),
		"a kid's last kid is too far":   node("d", node("b", leaf("a"), leaf("c", "e")), node("g", leaf("f"), leaf("h"))),
		"it is as far as the root":      node("d", node("b", leaf("a"), leaf("c", "d")), node("g", leaf("f"), leaf("h"))),
		"a kid's first kid is early":    node("d", node("b", leaf("a"), leaf("c")), node("g", leaf("c", "f"), leaf("h"))),
		"it is as early as the root":    node("d", node("b", leaf("a"), leaf("c")), node("g", leaf("d", "f"), leaf("h"))),
	}
	chains := map[string][]api.Version{
		"no versions":         nil,
		"none, not nil":       {},
		"stamp 0":             {{}},
		"stamp -1":            {{Stamp: -1}},
		"stamp 2^31":          {{Stamp: 1 << 31}},
		"stamps that fall":    {{Stamp: 2}, {Stamp: 1}},
		"a stamp twice":       {{Stamp: 2}, {Stamp: 2}},
		"33 bytes of a value": {{Stamp: 1, Value: make([]byte, 33)}},
		"gone, with a value":  {{Stamp: 1, Gone: true, Value: []byte("v")}},
		"wrong at last":       {{Stamp: 1}, {Stamp: 2}, {Stamp: 3, Value: make([]byte, 33)}},
	}
	// Each is put in the place of one of all keys of an index, that may be but for it.
	for at := range 8 {
		for why, l := range chains {
			n := build(form{1, []form{{1, []form{{keys: 1}, {keys: 2}}}, {1, []form{{keys: 1}, {keys: 1}}}}})
			nth(&n, at, func(n *api.Node, i int) { n.Chains[i] = l })
			all[fmt.Sprintf("%s, at %d", why, at)] = n
		}
		n := build(form{1, []form{{1, []form{{keys: 1}, {keys: 2}}}, {1, []form{{keys: 1}, {keys: 1}}}}})
		nth(&n, at, func(n *api.Node, i int) { n.Keys[i] = append(n.Keys[i], make([]byte, 15)...) })
		all[fmt.Sprintf("a key of 17 bytes, at %d", at)] = n
	}
	return all
}

// nth does something with the n-th key of an index, in order: it is handed its node, and its place there.
func nth(root *api.Node, n int, do func(n *api.Node, i int)) {
	var seek func(x *api.Node) bool
	seek = func(x *api.Node) bool {
		for i := range len(x.Keys) + 1 {
			if len(x.Kids) > 0 && seek(&x.Kids[i]) {
				return true
			}
			if i == len(x.Keys) {
				break
			}
			if n == 0 {
				do(x, i)
				return true
			}
			n--
		}
		return false
	}
	seek(root)
}

// keysOf are all keys that stand in a node, or below it, in whatever order.
func keysOf(n api.Node) []string {
	var all []string
	for _, k := range n.Keys {
		all = append(all, string(k))
	}
	for _, kid := range n.Kids {
		all = append(all, keysOf(kid)...)
	}
	return all
}

// nodes is how many nodes there are, from one on, and below.
func nodes(n api.Node) int {
	many := 1
	for _, kid := range n.Kids {
		many += nodes(kid)
	}
	return many
}

// asked are keys to ask for: those that are there, those beside them, and the edges.
func asked(n api.Node) []string {
	all := []string{"", "\x00", "\x00\x00", "a", "b", "m", "zz", "\xff", strings.Repeat("\xff", 16), strings.Repeat("\xff", 17), strings.Repeat("a", 1000)}
	for _, k := range keysOf(n) {
		all = append(all, k, k+"\x00", k+strings.Repeat("\x01", 17))
		if k != "" {
			all = append(all, k[:len(k)-1], k[:len(k)-1]+string([]byte{k[len(k)-1] - 1}), k[:len(k)-1]+string([]byte{k[len(k)-1] + 1}))
		}
	}
	slices.Sort(all)
	return slices.Compact(all)
}

// holds fails unless an index may be, and has just these pairs.
func holds(t *testing.T, n api.Node, want []pair, what string) {
	t.Helper()
	got, deep, is := looked(n)
	if !is || !slices.Equal(got, want) {
		t.Fatalf("%s: %v: %s for %v", what, is, tell(n), want)
	}
	if most := bits.Len(uint(len(want) + 1)); deep >= most && len(want) > 0 {
		t.Fatalf("%s: %d keys, %d deep", what, len(want), deep)
	}
}

// P6.1
func TestCheckAndKeys(t *testing.T) {
	for _, n := range indexes() {
		pairs, deep, is := looked(n)
		if !is {
			t.Fatalf("the test's index: %s", tell(n))
		}
		var keys []string
		for _, k := range tree.Keys(n) {
			keys = append(keys, string(k))
		}
		if !tree.Check(n) || tree.Many(n) != len(pairs) || tree.Depth(n) != deep || len(keys) != len(pairs) {
			t.Fatalf("%s: %v, %d, %d, %q", tell(n), tree.Check(n), tree.Many(n), tree.Depth(n), keys)
		}
		for i, p := range pairs {
			if keys[i] != p.key {
				t.Fatalf("%s: %q", tell(n), keys)
			}
		}
	}
}

// P6.1: the edges, by numbers.
func TestDepthAndMany(t *testing.T) {
	for _, c := range []struct {
		n          api.Node
		many, deep int
	}{
		{api.Node{}, 0, 1},
		{leaf("a"), 1, 1},
		{leaf("a", "b", "c"), 3, 1},
		{node("b", leaf("a"), leaf("c")), 3, 2},
		{build(alike(3, 2)), 15, 2},
		{build(alike(1, 3)), 7, 3},
		{build(alike(3, 4)), 255, 4},
		{build(alike(1, 8)), 255, 8},
	} {
		if !tree.Check(c.n) || tree.Many(c.n) != c.many || tree.Depth(c.n) != c.deep || len(tree.Keys(c.n)) != c.many {
			t.Errorf("%s: %v, %d, %d", tell(c.n), tree.Check(c.n), tree.Many(c.n), tree.Depth(c.n))
		}
	}
}

// P6.1, P6.2, P6.3: of an index that may not be nothing is told, but ErrArg, and it, whatever the key and the versions are.
func TestWrong(t *testing.T) {
	for name, n := range wrong() {
		if _, _, is := looked(n); is {
			t.Fatalf("the test's index: %s", name)
		}
		if tree.Check(n) || len(tree.Keys(n)) != 0 || tree.Many(n) != 0 || tree.Depth(n) != 0 {
			t.Errorf("%s: %v, %q, %d, %d", name, tree.Check(n), tree.Keys(n), tree.Many(n), tree.Depth(n))
		}
		for _, key := range asked(n) {
			if l, is := tree.Find(n, []byte(key)); is || len(l) != 0 {
				t.Errorf("%s: %q is found", name, key)
			}
			if k, is := tree.Next(n, []byte(key)); is || len(k) != 0 {
				t.Errorf("%s: %q is next to %q", name, k, key)
			}
			for _, l := range [][]api.Version{of(key), nil, {{Stamp: 0}}} {
				if len(key) > 16 {
					l = of("a")
				}
				if m, e := tree.Put(n, []byte(key), l); e != api.ErrArg || tell(m) != tell(n) {
					t.Errorf("%s: Put of %q: %v, %s", name, key, e, tell(m))
				}
			}
			if m, e := tree.Delete(n, []byte(key)); e != api.ErrArg || tell(m) != tell(n) {
				t.Errorf("%s: Delete of %q: %v, %s", name, key, e, tell(m))
			}
		}
	}
}

// P6.1: of all small indexes, whatever their keys, those may be of which the words are true.
func TestCheckOfSmall(t *testing.T) {
	nodes := []api.Node{{}}
	letters := []string{"a", "b", "c", "d", "e"}
	for _, a := range letters {
		nodes = append(nodes, leaf(a))
		for _, b := range letters {
			nodes = append(nodes, leaf(a, b))
		}
	}
	right := 0
	check := func(n api.Node) {
		_, deep, is := looked(n)
		if tree.Check(n) != is || tree.Depth(n) != deep {
			t.Fatalf("%s: %v, %d", tell(n), !is, tree.Depth(n))
		}
		if is {
			right++
		}
	}
	for _, root := range nodes {
		check(root)
		for _, a := range nodes {
			root.Kids = []api.Node{a}
			check(root)
			for _, b := range nodes {
				root.Kids = []api.Node{a, b}
				check(root)
				for _, c := range nodes {
					root.Kids = []api.Node{a, b, c}
					check(root)
				}
			}
		}
	}
	// Of no letter, of one, and of two; with a root of b, c or d, and kids of one or two letters ahead, and behind; with a root of b and d.
	if right != 1+5+10+(1*6+3*3+6*1)+1 {
		t.Errorf("%d may be", right)
	}
}

// P6.1: one letter another one, anywhere in an index, or one node's list longer or shorter.
func TestCheckOfChanged(t *testing.T) {
	for _, f := range []form{{keys: 3}, alike(2, 2), alike(1, 3), {1, []form{alike(2, 2), {2, []form{{keys: 1}, {keys: 3}, {keys: 2}}}}}} {
		size := len(keysOf(build(f)))
		for at := range size {
			for to := range 2*size + 1 {
				n := build(f)
				nth(&n, at, func(n *api.Node, i int) { n.Keys[i] = []byte(name(to)) })
				if _, deep, is := looked(n); tree.Check(n) != is || tree.Depth(n) != deep || is != (to >= 2*at && to <= 2*at+2) {
					t.Fatalf("%s: %v", tell(n), tree.Check(n))
				}
			}
			for i, change := range []func(n *api.Node){
				func(n *api.Node) { n.Chains = n.Chains[1:] },
				func(n *api.Node) { n.Chains = append(n.Chains, of("x")) },
				func(n *api.Node) { n.Keys = n.Keys[1:] },
				func(n *api.Node) { n.Keys, n.Chains = append(n.Keys, []byte("x")), append(n.Chains, of("x")) },
				func(n *api.Node) { n.Keys, n.Chains = n.Keys[1:], n.Chains[1:] },
				func(n *api.Node) { n.Kids = append(n.Kids, api.Node{}) },
				func(n *api.Node) { n.Kids = append(n.Kids, leaf("x")) },
				func(n *api.Node) { n.Kids = n.Kids[:max(len(n.Kids)-1, 0)] },
				func(n *api.Node) { n.Kids = nil },
			} {
				n := build(f)
				nth(&n, at, func(n *api.Node, _ int) { change(n) })
				if _, deep, is := looked(n); tree.Check(n) != is || tree.Depth(n) != deep {
					t.Fatalf("%d: %s: %v", i, tell(n), tree.Check(n))
				}
			}
		}
	}
}

// P6.1: all calls end on lists that are long, and on nodes that are deep.
func TestLongAndDeep(t *testing.T) {
	long := make([]string, 1<<16)
	for i := range long {
		long[i] = name(i)
	}
	row, line := leaf(long...), leaf("a")
	// In these two all is as it may be, but for the leaves' depths.
	left, right := leaf(""), leaf("\xff\xff\xff")
	for i := 1; i < 1<<16-1; i++ {
		line = api.Node{Kids: []api.Node{line}}
		up, down := leaf(name(i)), leaf(name(1<<16-1-i))
		up.Kids = []api.Node{left, leaf(name(i) + "x")}
		down.Kids = []api.Node{leaf(name(1<<16-2-i) + "x"), right}
		left, right = up, down
	}
	for i, n := range []api.Node{row, line, left, right} {
		if tree.Check(n) || tree.Many(n) != 0 || tree.Depth(n) != 0 || len(tree.Keys(n)) != 0 {
			t.Errorf("%d: may be", i)
		}
		m, e := tree.Put(n, []byte("b"), of("b"))
		o, f := tree.Delete(n, []byte("a"))
		if e != api.ErrArg || f != api.ErrArg || nodes(m) != nodes(n) || nodes(o) != nodes(n) || len(m.Keys) != len(n.Keys) || len(o.Keys) != len(n.Keys) {
			t.Errorf("%d: %v, %v", i, e, f)
		}
	}
}

// P6.2
func TestFindAndNext(t *testing.T) {
	for _, n := range indexes() {
		pairs, _, _ := looked(n)
		for _, key := range asked(n) {
			at := sort.Search(len(pairs), func(i int) bool { return pairs[i].key >= key })
			l, is := tree.Find(n, []byte(key))
			k, any := tree.Next(n, []byte(key))
			if at == len(pairs) {
				if is || any || len(l) != 0 || len(k) != 0 {
					t.Fatalf("%s: %q: %v, %q", tell(n), key, l, k)
				}
				continue
			}
			if p := pairs[at]; !any || string(k) != p.key || is != (p.key == key) || is && tellVersions(l) != p.versions || !is && len(l) != 0 {
				t.Fatalf("%s: %q: %v, %v, %q, %v", tell(n), key, l, is, k, any)
			}
		}
		if k, any := tree.Next(n, nil); any != (len(pairs) > 0) || any && string(k) != pairs[0].key {
			t.Fatalf("%s: %q, %v", tell(n), k, any)
		}
	}
}

// P6.2: the empty key, and keys that are others' beginnings.
func TestKeysThatBegin(t *testing.T) {
	n := others()["beginnings"]
	for _, c := range [][2]string{{"", ""}, {"\x00", "a"}, {"a", "a"}, {"a\x00", "a\x00"}, {"a\x00\x00", "aa"}, {"aa", "aa"}, {"aaa", "ab"}, {"ab", "ab"}} {
		if k, any := tree.Next(n, []byte(c[0])); !any || string(k) != c[1] {
			t.Errorf("%q: %q, %v", c[0], k, any)
		}
		if _, is := tree.Find(n, []byte(c[0])); is != (c[0] == c[1]) {
			t.Errorf("%q: %v", c[0], is)
		}
	}
	if l, is := tree.Find(n, nil); !is || tellVersions(l) != tellVersions(of("")) {
		t.Errorf("the empty key: %v", l)
	}
	if k, any := tree.Next(n, []byte("ab\x00")); any || len(k) != 0 {
		t.Errorf("%q", k)
	}
}

// P6.3: the chapter's example.
func TestExample(t *testing.T) {
	n, e := tree.Put(api.Node{}, []byte("b"), of("b"))
	m, f := tree.Put(n, []byte("a"), of("a"))
	if e != api.OK || f != api.OK || fmt.Sprintf("%q", tree.Keys(m)) != `["a" "b"]` {
		t.Errorf("%v, %v, %q", e, f, tree.Keys(m))
	}
}

// P6.3: each key that there is not, into an index of each form, and others in the place of each that there is.
func TestPut(t *testing.T) {
	for _, n := range indexes() {
		pairs, _, _ := looked(n)
		was := tell(n)
		for _, key := range asked(n) {
			l := []api.Version{{Stamp: 77, Value: []byte("new")}, {Stamp: 78, Gone: true}}
			m, e := tree.Put(n, []byte(key), l)
			if len(key) > 16 {
				if e != api.ErrArg || tell(m) != was {
					t.Fatalf("%s: %q: %v", was, key, e)
				}
				continue
			}
			if e != api.OK || tell(n) != was {
				t.Fatalf("%s: %q: %v", was, key, e)
			}
			holds(t, m, with(pairs, pair{key, tellVersions(l)}), was)
			if got, is := tree.Find(m, []byte(key)); !is || tellVersions(got) != tellVersions(l) {
				t.Fatalf("%s: %q: %v, %v", was, key, got, is)
			}
		}
	}
}

// P6.3: a key that is too long, or versions that may not be, or are none.
func TestPutOfWrong(t *testing.T) {
	for _, n := range []api.Node{{}, leaf("b"), leaf("a", "b", "c"), node("b", leaf("a"), leaf("c")), build(alike(3, 3))} {
		for _, key := range []string{"", "a", "b", "x", name(9), strings.Repeat("x", 16)} {
			for i, l := range [][]api.Version{nil, {}, {{}}, {{Stamp: -1}}, {{Stamp: 1 << 31}}, {{Stamp: 1, Value: make([]byte, 33)}}, {{Stamp: 1, Gone: true, Value: []byte{0}}}, {{Stamp: 2}, {Stamp: 2}}, {{Stamp: 3}, {Stamp: 2}}, {{Stamp: 1}, {Stamp: 2}, {Stamp: 1}}} {
				if m, e := tree.Put(n, []byte(key), l); e != api.ErrArg || tell(m) != tell(n) {
					t.Errorf("%s: %q, %d: %v, %s", tell(n), key, i, e, tell(m))
				}
			}
		}
		for _, size := range []int{17, 18, 32, 255, 256, 1 << 16} {
			if m, e := tree.Put(n, make([]byte, size), of("a")); e != api.ErrArg || tell(m) != tell(n) {
				t.Errorf("%s: %d bytes: %v", tell(n), size, e)
			}
		}
		for _, l := range [][]api.Version{{{Stamp: 1}}, {{Stamp: math.MaxInt32, Value: make([]byte, 32)}}, {{Stamp: 1, Gone: true}, {Stamp: 2, Gone: true, Value: []byte{}}}} {
			if _, e := tree.Put(n, make([]byte, 16), l); e != api.OK {
				t.Errorf("%s: 16 bytes, %v: %v", tell(n), l, e)
			}
		}
	}
}

// P6.3: each key out of an index of each form; and ErrNone, and it, of those that there are not.
func TestDelete(t *testing.T) {
	for _, n := range indexes() {
		pairs, _, _ := looked(n)
		was := tell(n)
		for _, key := range asked(n) {
			m, e := tree.Delete(n, []byte(key))
			there := slices.ContainsFunc(pairs, func(p pair) bool { return p.key == key })
			if !there && (e != api.ErrNone || tell(m) != was) || there && e != api.OK || tell(n) != was {
				t.Fatalf("%s: %q: %v", was, key, e)
			}
			holds(t, m, less(pairs, key), was)
			if _, is := tree.Find(m, []byte(key)); is {
				t.Fatalf("%s: %q is there", was, key)
			}
		}
	}
}

// orders are all orders of the numbers below n.
func orders(n int) [][]int {
	all := [][]int{nil}
	for i := range n {
		var longer [][]int
		for _, o := range all {
			for at := range i + 1 {
				longer = append(longer, slices.Insert(slices.Clone(o), at, i))
			}
		}
		all = longer
	}
	return all
}

// P6.3, P6.4: seven keys in all orders, put, and deleted in another order.
func TestAllOrders(t *testing.T) {
	all := orders(7)
	for i, puts := range all {
		var n api.Node
		var pairs []pair
		step := func(m api.Node, e api.Errno, want []pair) {
			if e != api.OK {
				t.Fatalf("%v: %v", puts, e)
			}
			holds(t, m, want, fmt.Sprint(puts))
			n, pairs = m, want
		}
		for _, k := range puts {
			m, e := tree.Put(n, []byte(name(k)), of(name(k)))
			step(m, e, with(pairs, pair{name(k), tellVersions(of(name(k)))}))
		}
		for _, k := range all[i*11%len(all)] {
			m, e := tree.Delete(n, []byte(name(k)))
			step(m, e, less(pairs, name(k)))
		}
		if len(pairs) != 0 || tree.Many(n) != 0 || tree.Depth(n) != 1 || tell(n) != "" {
			t.Fatalf("%v: %s is left", puts, tell(n))
		}
	}
}

// P6.4: keys that rise, that fall, and that do neither, up to many, and down to none; each stays found till it is deleted, by all who asked then.
func TestMany(t *testing.T) {
	const size = 300
	for way, place := range []func(i int) int{
		func(i int) int { return i },
		func(i int) int { return size - 1 - i },
		func(i int) int { return i * 77 % size },
		func(i int) int { return (i%2)*size/2 + i/2 },
	} {
		var n api.Node
		var pairs []pair
		for i := range size {
			k := name(place(i))
			m, e := tree.Put(n, []byte(k), of(k))
			pairs = with(pairs, pair{k, tellVersions(of(k))})
			if e != api.OK || tree.Many(m) != i+1 {
				t.Fatalf("%d: %v", way, e)
			}
			holds(t, m, pairs, k)
			n = m
		}
		for down := range 4 {
			m, left := n, pairs
			for i := range size {
				k := name([]int{i, size - 1 - i, i * 131 % size, (i + size/2) % size}[down])
				o, e := tree.Delete(m, []byte(k))
				left = less(left, k)
				if e != api.OK || tree.Many(o) != size-1-i {
					t.Fatalf("%d, %d: %v", way, down, e)
				}
				holds(t, o, left, k)
				m = o
			}
		}
		holds(t, n, pairs, "as it was")
	}
}

// P6.4: keys of all lengths, put and deleted to and fro, by a sum that goes on.
func TestToAndFro(t *testing.T) {
	state := uint32(1)
	next := func(n int) int {
		state = state*1664525 + 1013904223
		return int(state>>8) % n
	}
	var n api.Node
	var pairs []pair
	for i := range 6000 {
		key := strings.Repeat("q", next(15)) + []string{"", "\x00", "a", "q\xff"}[next(4)]
		key = key[:min(len(key), 16)]
		// For some time more come than go, and then more go than come.
		if next(10) < 3+4*(i/1000%2) {
			was := len(pairs)
			m, e := tree.Delete(n, []byte(key))
			pairs = less(pairs, key)
			if (e == api.OK) != (len(pairs) < was) || e != api.OK && e != api.ErrNone {
				t.Fatalf("%d: %q: %v", i, key, e)
			}
			n = m
		} else {
			l := []api.Version{{Stamp: i + 1, Value: []byte(key)}}
			m, e := tree.Put(n, []byte(key), l)
			pairs = with(pairs, pair{key, tellVersions(l)})
			if e != api.OK {
				t.Fatalf("%d: %q: %v", i, key, e)
			}
			n = m
		}
		holds(t, n, pairs, key)
		if len(pairs) > 0 {
			p := pairs[next(len(pairs))]
			if l, is := tree.Find(n, []byte(p.key)); !is || tellVersions(l) != p.versions {
				t.Fatalf("%d: %q: %v, %v", i, p.key, l, is)
			}
		}
	}
}

// answers are what all calls tell, of an index, a key and versions.
func answers(n api.Node, key []byte, l []api.Version) map[string]any {
	type put struct {
		N   api.Node
		Err api.Errno
	}
	type find struct {
		L  []api.Version
		Is bool
	}
	type next struct {
		Key []byte
		Is  bool
	}
	all := map[string]any{"Check": tree.Check(n), "Keys": tree.Keys(n), "Many": tree.Many(n), "Depth": tree.Depth(n)}
	found, is := tree.Find(n, key)
	all["Find"] = find{found, is}
	behind, any := tree.Next(n, key)
	all["Next"] = next{behind, any}
	m, e := tree.Put(n, key, l)
	all["Put"] = put{m, e}
	o, f := tree.Delete(n, key)
	all["Delete"] = put{o, f}
	return all
}

// room is the memory of a list, its spare room in it.
type room struct{ from, to uintptr }

// lists hands over all lists in a value, and in their spare room.
func lists(v reflect.Value, do func(l reflect.Value)) {
	switch v.Kind() {
	case reflect.Interface:
		lists(v.Elem(), do)
	case reflect.Struct:
		for i := range v.NumField() {
			lists(v.Field(i), do)
		}
	case reflect.Slice:
		if v.Cap() > 0 {
			l := v.Slice3(0, v.Cap(), v.Cap())
			do(l)
			for i := range l.Len() {
				lists(l.Index(i), do)
			}
		}
	}
}

// rooms are those of all lists in values.
func rooms(values ...any) []room {
	var all []room
	for _, x := range values {
		lists(reflect.ValueOf(x), func(l reflect.Value) {
			all = append(all, room{l.Pointer(), l.Pointer() + uintptr(l.Len())*l.Type().Elem().Size()})
		})
	}
	slices.SortFunc(all, func(a, b room) int { return int(a.from) - int(b.from) })
	return all
}

// apart tells whether no room reaches into another one's.
func apart(all []room) bool {
	for i := 1; i < len(all); i++ {
		if all[i].from < all[i-1].to {
			return false
		}
	}
	return true
}

// meet tells whether a room of one meets one of another, both apart and in order.
func meet(a, b []room) bool {
	for len(a) > 0 && len(b) > 0 {
		switch {
		case a[0].to <= b[0].from:
			a = a[1:]
		case b[0].to <= a[0].from:
			b = b[1:]
		default:
			return true
		}
	}
	return false
}

// whole is all that is in a value, the lists' spare room in it.
func whole(x any) string {
	var b strings.Builder
	fmt.Fprintf(&b, "%v\n", x)
	lists(reflect.ValueOf(x), func(l reflect.Value) { fmt.Fprintf(&b, "%v\n", l) })
	return b.String()
}

// plain is a value in words, to which it is nothing whether an empty list is nil.
func plain(x any) string { return fmt.Sprintf("%v", x) }

// spoil overwrites all lists in a value, and their spare room, with other elements.
func spoil(x any) {
	var all []reflect.Value
	lists(reflect.ValueOf(x), func(l reflect.Value) { all = append(all, l) })
	for _, l := range all {
		for i := range l.Len() {
			switch e := l.Index(i).Addr().Interface().(type) {
			case *byte:
				*e += 101
			case *[]byte:
				*e = []byte("spoilt")
			case *[]api.Version:
				*e = of("spoilt")
			case *api.Version:
				*e = api.Version{Stamp: -7, Gone: true, Value: []byte("spoilt")}
			case *api.Node:
				*e = leaf("spoilt")
			default:
				panic("spoil")
			}
		}
	}
}

// twin is an index in memory of its own; with spare room, in which something stands, in each list.
func twin(n api.Node, spare bool) api.Node {
	var own api.Node
	for _, k := range n.Keys {
		own.Keys = append(own.Keys, twinOf(k, []byte("zz"), spare))
	}
	for _, l := range n.Chains {
		own.Chains = append(own.Chains, twinVersions(l, spare))
	}
	for _, kid := range n.Kids {
		own.Kids = append(own.Kids, twin(kid, spare))
	}
	own.Keys = twinOf(own.Keys, [][]byte{[]byte("zzz"), []byte("x")}, spare)
	own.Chains = twinOf(own.Chains, [][]api.Version{of("zzz"), {{}}}, spare)
	own.Kids = twinOf(own.Kids, []api.Node{leaf("y", "x"), {}}, spare)
	return own
}
func twinVersions(l []api.Version, spare bool) []api.Version {
	var own []api.Version
	for _, x := range l {
		x.Value = twinOf(x.Value, []byte("zz"), spare)
		own = append(own, x)
	}
	return twinOf(own, []api.Version{{Stamp: 99}, {Stamp: -1}}, spare)
}

// twinOf is a list in new memory, without spare room, or with this in it.
func twinOf[T any](l, more []T, spare bool) []T {
	if spare {
		return slices.Concat(l, more)[:len(l)]
	}
	return slices.Clip(slices.Concat(l))
}

// some are a few indexes, that may be, and that may not.
func some() []api.Node {
	all := []api.Node{{}, leaf("b"), leaf("a", "b", "c"), node("b", leaf("a"), leaf("c")), node("bd", leaf("a"), leaf("c"), leaf("e", "f", "g")), build(alike(1, 3)), build(alike(3, 2)), build(alike(3, 3)), build(alike(1, 4))}
	names := []string{}
	bad := wrong()
	for name := range bad {
		names = append(names, name)
	}
	slices.Sort(names)
	for i, name := range names {
		if i%4 == 0 || !strings.Contains(name, ", at ") {
			all = append(all, bad[name])
		}
	}
	return all
}

// tries are keys to do all calls with.
func tries(n api.Node) []string {
	all := keysOf(n)
	return append(all[:min(len(all), 12)], "", "b\x00", "zzzz", name(8), strings.Repeat("k", 17))
}

// R4: nothing is written into what is handed in, or into its spare room, by a call, or by who has its answers; R3: neither with an error.
func TestArgumentsStay(t *testing.T) {
	for _, c := range some() {
		for _, k := range tries(c) {
			for _, l := range [][]api.Version{of("new"), nil, {{Stamp: 2}, {Stamp: 1}}} {
				n, key, l := twin(c, true), twinOf([]byte(k), []byte("zz"), true), twinVersions(l, true)
				was := whole(n) + whole(key) + whole(l)
				for _, a := range answers(n, key, l) {
					spoil(a)
				}
				if whole(n)+whole(key)+whole(l) != was {
					t.Fatalf("%s, %q: what was handed in is changed", tell(c), k)
				}
			}
		}
	}
}

// R4: what is answered stays, whatever becomes of what was handed in.
func TestAnswersStay(t *testing.T) {
	for _, c := range some() {
		for _, k := range tries(c) {
			n, key, l := twin(c, false), twinOf([]byte(k), nil, false), twinVersions(of("new"), false)
			got := answers(n, key, l)
			spoil(n)
			spoil(key)
			spoil(l)
			for call, want := range answers(twin(c, false), []byte(k), of("new")) {
				if plain(got[call]) != plain(want) {
					t.Fatalf("%s, %s of %q: %v for %v", tell(c), call, k, got[call], want)
				}
			}
		}
	}
}

// R4: no two lists of one answer share memory, nor does an answer's with an argument's; nor do two answers'.
func TestListsApart(t *testing.T) {
	for _, c := range some() {
		for _, k := range tries(c) {
			n, key, l := twin(c, true), twinOf([]byte(k), []byte("zz"), true), twinVersions(of("new"), true)
			handed := rooms(n, key, l)
			first, second := answers(n, key, l), answers(n, key, l)
			for call, a := range first {
				got := rooms(a)
				if !apart(got) || meet(got, handed) || meet(got, rooms(second[call])) {
					t.Fatalf("%s, %s of %q: memory is shared", tell(c), call, k)
				}
			}
			// Memory that nobody has any more may be another one's.
			runtime.KeepAlive(n)
			runtime.KeepAlive(key)
			runtime.KeepAlive(l)
		}
	}
}

// R4: nor do they when it was shared in what was handed in.
func TestSharedArguments(t *testing.T) {
	text := []byte("abcdefghijklmno")
	l := []api.Version{{Stamp: 1, Value: text}, {Stamp: 2, Value: text[3:7]}, {Stamp: 3, Value: text[:2]}}
	share := func(from, to int) api.Node {
		var n api.Node
		for i := from; i < to; i++ {
			n.Keys, n.Chains = append(n.Keys, text[i:i+1]), append(n.Chains, l)
		}
		return n
	}
	root := share(3, 4)
	root.Kids = []api.Node{share(0, 3), share(4, 7)}
	row := share(0, 2)
	bad := share(2, 3)
	bad.Kids = []api.Node{row, row}
	for i, n := range []api.Node{share(0, 3), root, bad} {
		was := whole(n) + whole(l) + whole(text)
		for _, key := range [][]byte{text[3:4], text[:1], text[9:10], text[5:7]} {
			for call, a := range answers(n, key, l) {
				if got := rooms(a); !apart(got) || slices.ContainsFunc(rooms(text, l, n), func(r room) bool { return meet([]room{r}, got) }) {
					t.Errorf("%d, %s of %q: memory is shared", i, call, key)
				}
				spoil(a)
			}
		}
		if whole(n)+whole(l)+whole(text) != was {
			t.Errorf("%d: what was handed in is changed", i)
		}
	}
}

// R4, R5: an index goes on two ways, and back; each is as if there were no other one.
func TestTwoWays(t *testing.T) {
	n := build(alike(2, 3))
	pairs, _, _ := looked(n)
	for i := range 53 {
		key := name(i)
		one, e := tree.Put(n, []byte(key), of("one"))
		two, f := tree.Put(n, []byte(key+"x"), of("two"))
		none, g := tree.Delete(n, []byte(key))
		again, h := tree.Delete(two, []byte(key+"x"))
		if e != api.OK || f != api.OK || (g == api.OK) != (i%2 == 1) || h != api.OK {
			t.Fatalf("%d: %v, %v, %v, %v", i, e, f, g, h)
		}
		holds(t, one, with(pairs, pair{key, tellVersions(of("one"))}), key)
		holds(t, two, with(pairs, pair{key + "x", tellVersions(of("two"))}), key)
		holds(t, none, less(pairs, key), key)
		holds(t, again, pairs, key)
	}
	holds(t, n, pairs, "as it was")
}

// R5: spare room, what stands in it, and whether an empty list is nil, is nothing to an answer; nor is what was asked ahead.
func TestNothingElseMatters(t *testing.T) {
	first := map[string]string{}
	for turn := range 3 {
		all := some()
		if turn == 1 {
			slices.Reverse(all)
		}
		for _, c := range all {
			for _, k := range tries(c) {
				n, key, l := twin(c, turn == 2), twinOf([]byte(k), []byte("zz"), turn == 2), twinVersions(of("new"), turn == 2)
				for call, a := range answers(n, key, l) {
					what := tell(c) + call + k
					if turn == 0 {
						first[what] = plain(a)
					}
					if plain(a) != first[what] {
						t.Fatalf("%s, %s of %q: %v, ahead of it %s", tell(c), call, k, a, first[what])
					}
				}
			}
		}
	}
	filled := api.Node{Keys: [][]byte{{}}, Chains: [][]api.Version{{{Stamp: 1, Value: []byte{}}}}, Kids: []api.Node{}}
	bare := api.Node{Keys: [][]byte{nil}, Chains: [][]api.Version{{{Stamp: 1}}}}
	for call, a := range answers(filled, []byte{}, of("")) {
		if b := answers(bare, nil, of(""))[call]; plain(a) != plain(b) {
			t.Errorf("%s: %v, %v", call, a, b)
		}
	}
}
