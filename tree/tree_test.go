package tree_test

import (
	"math/rand"
	"slices"
	"testing"

	"assessor/api"
	"assessor/tree"
)

// minus is the tree of "-x + 1" with the places that the parser gives.
func minus() api.Node {
	return placed(0, 6, node(api.NodeBinary, "+",
		placed(0, 2, node(api.NodeUnary, "-", placed(1, 2, node(api.NodeName, "x")))),
		placed(5, 6, node(api.NodeNumber, "1"))))
}

func placed(at, end int, n api.Node) api.Node {
	n.At, n.End = at, end
	return n
}

// paths lists the paths of all nodes in the order of their numbers, and the nodes, by recursion.
func paths(n api.Node, path []int) ([][]int, []api.Node) {
	l, nodes := [][]int{slices.Clone(path)}, []api.Node{n}
	for i, k := range n.Kids {
		more, below := paths(k, append(slices.Clone(path), i))
		l, nodes = append(l, more...), append(nodes, below...)
	}
	return l, nodes
}

// equal compares two trees with their places.
func equal(a, b api.Node) bool {
	return a.Kind == b.Kind && a.Text == b.Text && a.At == b.At && a.End == b.End && slices.EqualFunc(a.Kids, b.Kids, equal)
}

// spoil overwrites all nodes of a tree in its memory.
func spoil(n *api.Node) {
	for i := range n.Kids {
		spoil(&n.Kids[i])
	}
	*n = api.Node{Kind: -1, Text: "spoilt", At: -1, End: -1}
}

// chain returns a tree with a number of levels in which each node has one kid.
func chain(levels int) api.Node {
	n := node(api.NodeName, "x")
	for range levels - 1 {
		n = node(api.NodeUnary, "-", n)
	}
	return n
}

// P3.2

func TestNumbersOfTheExample(t *testing.T) {
	n := minus()
	if tree.Count(n) != 4 || tree.Levels(n) != 3 {
		t.Error(tree.Count(n), tree.Levels(n))
	}
	if p, ok := tree.Path(n, 2); !slices.Equal(p, []int{0, 0}) || !ok {
		t.Error(p, ok)
	}
	if i, ok := tree.Number(n, 1); i != 3 || !ok {
		t.Error(i, ok)
	}
	if k, ok := tree.Get(n, 0, 0); !equal(k, placed(1, 2, node(api.NodeName, "x"))) || !ok {
		t.Error(k, ok)
	}
}

func TestRoot(t *testing.T) {
	for _, n := range []api.Node{{}, minus(), node(-5, "?", node(99, ""))} {
		p, ok := tree.Path(n, 0)
		if len(p) != 0 || !ok {
			t.Error(p, ok)
		}
		if i, ok := tree.Number(n); i != 0 || !ok {
			t.Error(i, ok)
		}
		if k, ok := tree.Get(n); !equal(k, n) || !ok {
			t.Error(k, ok)
		}
	}
	if n := (api.Node{}); tree.Count(n) != 1 || tree.Levels(n) != 1 {
		t.Error("a node alone")
	}
}

func TestNoSuchNode(t *testing.T) {
	n := minus()
	for _, i := range []int{-1, 4, 5, 1 << 62, -1 << 62} {
		if p, ok := tree.Path(n, i); len(p) != 0 || ok {
			t.Error(i, p, ok)
		}
	}
	for _, p := range [][]int{{-1}, {2}, {1, 0}, {0, 1}, {0, -1}, {0, 0, 0}, {1 << 62}, {2, 0}, {-1, 0}} {
		if i, ok := tree.Number(n, p...); i != 0 || ok {
			t.Error(p, i, ok)
		}
		if k, ok := tree.Get(n, p...); !equal(k, api.Node{}) || ok {
			t.Error(p, k, ok)
		}
	}
}

func TestNumbersLikeRecursion(t *testing.T) {
	r := rand.New(rand.NewSource(1))
	for range 1000 {
		n := randomTree(r)
		l, nodes := paths(n, nil)
		levels := 0
		for i, p := range l {
			levels = max(levels, len(p)+1)
			if got, ok := tree.Path(n, i); !slices.Equal(got, p) || !ok {
				t.Fatal(i, got, ok)
			}
			if got, ok := tree.Number(n, p...); got != i || !ok {
				t.Fatal(p, got, ok)
			}
			if got, ok := tree.Get(n, p...); !equal(got, nodes[i]) || !ok {
				t.Fatal(p, got, ok)
			}
		}
		if tree.Count(n) != len(l) || tree.Levels(n) != levels {
			t.Fatal(tree.Count(n), tree.Levels(n))
		}
		if p, ok := tree.Path(n, len(l)); len(p) != 0 || ok {
			t.Fatal(p, ok)
		}
	}
}

func TestDeepTrees(t *testing.T) {
	const levels = 1 << 16
	n := chain(levels)
	p, ok := tree.Path(n, levels-1)
	if len(p) != levels-1 || !ok || tree.Count(n) != levels || tree.Levels(n) != levels {
		t.Error(len(p), ok)
	}
	if i, ok := tree.Number(n, p...); i != levels-1 || !ok {
		t.Error(i, ok)
	}
	if !tree.Expression(n) || tree.Statement(n) || !tree.Same(n, tree.Bare(n)) {
		t.Error("a long chain of operators is no expression")
	}
	if k, ok := tree.Get(n, p...); k.Kind != api.NodeName || !ok {
		t.Error(k, ok)
	}
}

// P3.3

func TestFind(t *testing.T) {
	n := minus()
	for at, want := range []int{1, 2, 0, 0, 0, 3} {
		if i, ok := tree.Find(n, at); i != want || !ok {
			t.Error(at, i, ok)
		}
	}
	for _, at := range []int{-1, 6, 7, 1 << 62} {
		if i, ok := tree.Find(n, at); i != 0 || ok {
			t.Error(at, i, ok)
		}
	}
}

func TestFindInPlacesThatOverlap(t *testing.T) {
	// The first kid that contains the offset is taken, even if it has no kid that does and the next one has; kids outside of their node count, too.
	n := placed(2, 9, node(api.NodeBlock, "",
		placed(4, 4, node(api.NodeNone, "")),
		placed(3, 6, node(api.NodeList, "", placed(0, 1, node(api.NodeName, "a")))),
		placed(4, 8, node(api.NodeList, "", placed(4, 20, node(api.NodeName, "b")), placed(4, 6, node(api.NodeName, "c"))))))
	for at, want := range []int{-1, -1, 0, 2, 2, 2, 5, 5, 0, -1, -1} {
		if i, ok := tree.Find(n, at); i != max(want, 0) || ok != (want >= 0) {
			t.Error(at, i, ok)
		}
	}
	if i, ok := tree.Find(api.Node{}, 0); i != 0 || ok {
		t.Error(i, ok)
	}
	if i, ok := tree.Find(placed(-3, -1, node(0, "")), -2); i != 0 || !ok {
		t.Error(i, ok)
	}
}

func TestFindLikeRecursion(t *testing.T) {
	r := rand.New(rand.NewSource(2))
	for range 2000 {
		n := randomTree(r)
		at := r.Intn(20) - 2
		l, nodes := paths(n, nil)
		want := -1
		if n.At <= at && at < n.End {
			want = 0
			// The path goes on with the first kid that has the offset, which is the first node of the list with that path.
			for i := 1; i < len(l); i++ {
				if p := l[i]; len(p) == len(l[want])+1 && slices.Equal(p[:len(p)-1], l[want]) && nodes[i].At <= at && at < nodes[i].End {
					want = i
				}
			}
		}
		if i, ok := tree.Find(n, at); i != max(want, 0) || ok != (want >= 0) {
			t.Fatal(at, want, i, ok)
		}
	}
}

// P3.4

func TestReplace(t *testing.T) {
	x, y := placed(3, 4, node(api.NodeName, "x")), placed(7, 9, node(api.NodeNumber, "7", node(99, "z")))
	list := placed(0, 9, node(api.NodeList, "", x, node(api.NodeList, "", x), x))
	for i, c := range []struct {
		n        api.Node
		path     []int
		from, to int
		l        []api.Node
		want     api.Node
	}{
		{list, nil, 0, 0, nil, list},
		{list, nil, 1, 1, []api.Node{y, y}, placed(0, 9, node(api.NodeList, "", x, y, y, list.Kids[1], x))},
		{list, nil, 3, 3, []api.Node{y}, placed(0, 9, node(api.NodeList, "", x, list.Kids[1], x, y))},
		{list, nil, 0, 3, nil, placed(0, 9, node(api.NodeList, ""))},
		{list, nil, 1, 3, []api.Node{y}, placed(0, 9, node(api.NodeList, "", x, y))},
		{list, []int{1}, 0, 1, []api.Node{y, x}, placed(0, 9, node(api.NodeList, "", x, node(api.NodeList, "", y, x), x))},
		{minus(), nil, 0, 1, []api.Node{y}, placed(0, 6, node(api.NodeBinary, "+", y, minus().Kids[1]))},
		{minus(), nil, 0, 2, []api.Node{y, x}, placed(0, 6, node(api.NodeBinary, "+", y, x))},
		{minus(), []int{1}, 0, 0, nil, minus()},
		{minus(), []int{0}, 0, 1, []api.Node{list}, placed(0, 6, node(api.NodeBinary, "+", placed(0, 2, node(api.NodeUnary, "-", list)), minus().Kids[1]))},
	} {
		if n, e := tree.Replace(c.n, c.path, c.from, c.to, c.l...); !equal(n, c.want) || e != api.OK {
			t.Error(i, n, e)
		}
	}
}

func TestReplaceErrors(t *testing.T) {
	list := node(api.NodeList, "", node(api.NodeName, "x"), node(api.NodeName, "y"))
	one := []api.Node{{}}
	for i, c := range []struct {
		n        api.Node
		path     []int
		from, to int
		l        []api.Node
		want     api.Errno
	}{
		{list, []int{2}, 0, 0, nil, api.ErrNotFound},
		{list, []int{-1}, -1, 9, one, api.ErrNotFound},
		{list, []int{0, 0}, 0, 0, nil, api.ErrNotFound},
		{list, nil, -1, 0, nil, api.ErrRange},
		{list, nil, 2, 1, nil, api.ErrRange},
		{list, nil, 0, 3, nil, api.ErrRange},
		{list, nil, 3, 3, nil, api.ErrRange},
		{list, []int{0}, 0, 1, one, api.ErrRange},
		{minus(), nil, 0, 3, one, api.ErrRange},
		{minus(), nil, 1, 0, one, api.ErrRange},
		{minus(), nil, 0, 1, nil, api.ErrArg},
		{minus(), nil, 1, 1, one, api.ErrArg},
		{minus(), nil, 0, 2, one, api.ErrArg},
		{minus(), []int{1}, 0, 0, one, api.ErrArg},
		{node(api.NodeError, ""), nil, 0, 0, one, api.ErrArg},
		{node(-1, "", one...), nil, 0, 1, nil, api.ErrArg},
	} {
		if n, e := tree.Replace(c.n, c.path, c.from, c.to, c.l...); !equal(n, api.Node{}) || e != c.want {
			t.Error(i, n, e)
		}
	}
}

// P3.5

func TestSame(t *testing.T) {
	n := minus()
	if !tree.Same(n, n) || !tree.Same(n, tree.Bare(n)) || !tree.Same(placed(9, 1, n), n) {
		t.Error("places matter")
	}
	if !tree.Same(api.Node{Kids: []api.Node{}}, api.Node{}) {
		t.Error("no kids are not no kids")
	}
	for i, other := range []api.Node{
		node(api.NodeBinary, "-", n.Kids...),
		node(api.NodeCall, "+", n.Kids...),
		node(api.NodeBinary, "+", n.Kids[0]),
		node(api.NodeBinary, "+", n.Kids[0], n.Kids[1], n.Kids[1]),
		node(api.NodeBinary, "+", n.Kids[1], n.Kids[0]),
		node(api.NodeBinary, "+", node(api.NodeUnary, "-", node(api.NodeName, "y")), n.Kids[1]),
		node(api.NodeBinary, "+", n.Kids[0], node(api.NodeNumber, "2")),
		n.Kids[0],
	} {
		if tree.Same(n, other) || tree.Same(other, n) {
			t.Error(i)
		}
	}
}

func TestBare(t *testing.T) {
	want := node(api.NodeBinary, "+", node(api.NodeUnary, "-", node(api.NodeName, "x")), node(api.NodeNumber, "1"))
	if n := tree.Bare(minus()); !equal(n, want) {
		t.Error(n)
	}
	r := rand.New(rand.NewSource(3))
	for range 1000 {
		n := randomTree(r)
		bare := tree.Bare(n)
		_, l := paths(bare, nil)
		for _, k := range l {
			if k.At != 0 || k.End != 0 {
				t.Fatal(k)
			}
		}
		if !tree.Same(n, bare) || !equal(tree.Bare(bare), bare) {
			t.Fatal(n)
		}
	}
}

// P3.6

func TestReplacingBackRestores(t *testing.T) {
	r := rand.New(rand.NewSource(4))
	for range 2000 {
		n := randomTree(r)
		i := r.Intn(tree.Count(n))
		path, _ := tree.Path(n, i)
		old, _ := tree.Get(n, path...)
		from := r.Intn(len(old.Kids) + 1)
		to := from + r.Intn(len(old.Kids)-from+1)
		size := to - from
		if tree.List(old.Kind) {
			size = r.Intn(4)
		}
		var l []api.Node
		for range size {
			l = append(l, randomTree(r))
		}
		changed, e := tree.Replace(n, path, from, to, l...)
		if e != api.OK {
			t.Fatal(e)
		}
		for j, k := range l {
			if got, ok := tree.Get(changed, append(slices.Clone(path), from+j)...); !equal(got, k) || !ok {
				t.Fatal(got, k)
			}
		}
		if back, e := tree.Replace(changed, path, from, from+size, old.Kids[from:to]...); !equal(back, n) || e != api.OK {
			t.Fatal(back, e)
		}
	}
}

func TestExchangedStatementsKeepTheShape(t *testing.T) {
	r := rand.New(rand.NewSource(5))
	count := 0
	for range 500 {
		n := randomProgram(r)
		if !tree.Valid(n) {
			t.Fatal(n)
		}
		l, nodes := paths(n, nil)
		for i, k := range nodes {
			if k.Kind != api.NodeBlock || len(k.Kids) == 0 {
				continue
			}
			j := r.Intn(len(k.Kids))
			changed, e := tree.Replace(n, l[i], j, j+1, randomOf(r, 2, statements))
			if e != api.OK || !tree.Valid(changed) {
				t.Fatal(changed, e)
			}
			count++
		}
	}
	if count < 200 {
		t.Error(count)
	}
}

func TestNothingIsShared(t *testing.T) {
	r := rand.New(rand.NewSource(6))
	for range 200 {
		n, x := randomTree(r), randomTree(r)
		keep, other := tree.Bare(n), tree.Bare(x)
		n, x = tree.Bare(keep), tree.Bare(other)
		root, _ := tree.Get(n)
		bare := tree.Bare(n)
		list := node(api.NodeBlock, "", n)
		changed, _ := tree.Replace(list, nil, 1, 1, x, x)
		tree.Valid(n)
		spoil(&changed.Kids[1])
		if !equal(changed.Kids[2], other) {
			t.Fatal("the new nodes share memory with each other")
		}
		spoil(&changed)
		spoil(&root)
		spoil(&bare)
		if !equal(n, keep) || !equal(x, other) {
			t.Fatal("a result shares memory with an argument")
		}
		for i := range tree.Count(n) {
			p, _ := tree.Path(n, i)
			again := slices.Clone(p)
			tree.Replace(n, p, 0, 0)
			for j := range p {
				p[j] = -1
			}
			if q, _ := tree.Path(n, i); !slices.Equal(q, again) {
				t.Fatal(q)
			}
		}
	}
}

func FuzzTree(f *testing.F) {
	f.Add(int64(1), 3, 0, 1)
	f.Fuzz(func(t *testing.T, seed int64, number, from, to int) {
		n := randomTree(rand.New(rand.NewSource(seed)))
		path, ok := tree.Path(n, number)
		if ok != (0 <= number && number < tree.Count(n)) {
			t.Error(number, ok)
		}
		if i, ok := tree.Number(n, path...); ok && i != 0 && i != number {
			t.Error(i, number)
		}
		if got, e := tree.Replace(n, path, from, to); (e == api.OK) == equal(got, api.Node{}) && n.Kind != 0 {
			t.Error(got, e)
		}
	})
}
