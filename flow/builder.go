package flow

import (
	"slices"

	"assessor/api"
	"assessor/tree"
)

// part sets the edges of a part of a procedure, whose points are there, when it is known which point follows it, and returns its beginning.
type part func(follow int) int

// maker makes the points of a node with a number.
type maker func(b *builder, n api.Node, number int) part

// builder makes the points of a procedure. All points of a node are made before edges lead to what follows it, which has greater numbers.
type builder struct {
	points []api.Point
	makers map[int]maker
}

// makers returns the functions that make the points of the nodes of each kind.
func makers() map[int]maker {
	return map[int]maker{
		api.NodeVar:    (*builder).plain,
		api.NodeAssign: (*builder).plain,
		api.NodeDo:     (*builder).plain,
		api.NodeAssert: (*builder).plain,
		api.NodeReturn: (*builder).leave,
		api.NodeIf:     (*builder).choose,
		api.NodeWhile:  (*builder).repeat,
		api.NodeFor:    (*builder).count,
		api.NodeBlock:  (*builder).block,
		api.NodeNone:   (*builder).nothing,
	}
}

// build returns the flow of a procedure: its node, and the number of this.
func build(n api.Node, number int) api.Flow {
	b := &builder{makers: makers()}
	b.add(api.PointEntry, -1)
	b.add(api.PointExit, -1)
	body := b.kid(n, number, 2)
	b.lead(entry, body(exit))
	return api.Flow{Points: b.points}
}

// add makes a point of a node.
func (b *builder) add(kind, number int) int {
	b.points = append(b.points, api.Point{Kind: kind, Node: number})
	return len(b.points) - 1
}

// lead sets the edges from a point, and returns the point.
func (b *builder) lead(from int, next ...int) int {
	b.points[from].Next = next
	return from
}

// kid makes the points of a kid of a node.
func (b *builder) kid(n api.Node, number, index int) part {
	distance, _ := tree.Number(n, index)
	return b.node(n.Kids[index], number+distance)
}

func (b *builder) node(n api.Node, number int) part { return b.makers[n.Kind](b, n, number) }

func (b *builder) block(n api.Node, number int) part {
	var statements []part
	number++
	for _, k := range n.Kids {
		statements = append(statements, b.node(k, number))
		number += tree.Count(k)
	}
	return func(follow int) int {
		for _, s := range slices.Backward(statements) {
			follow = s(follow)
		}
		return follow
	}
}

// nothing stands for the second block of an if that has none.
func (b *builder) nothing(api.Node, int) part {
	return func(follow int) int { return follow }
}

func (b *builder) plain(_ api.Node, number int) part {
	at := b.add(api.PointPlain, number)
	return func(follow int) int { return b.lead(at, follow) }
}

func (b *builder) leave(_ api.Node, number int) part {
	at := b.add(api.PointReturn, number)
	return func(int) int { return b.lead(at, exit) }
}

func (b *builder) choose(n api.Node, number int) part {
	at := b.add(api.PointTest, number)
	then := b.kid(n, number, 1)
	other := b.kid(n, number, 2)
	return func(follow int) int { return b.lead(at, then(follow), other(follow)) }
}

func (b *builder) repeat(n api.Node, number int) part {
	at := b.add(api.PointTest, number)
	body := b.kid(n, number, 1)
	return func(follow int) int { return b.lead(at, body(at), follow) }
}

func (b *builder) count(n api.Node, number int) part {
	bound := b.add(api.PointBound, number)
	step := b.add(api.PointStep, number)
	body := b.kid(n, number, 2)
	return func(follow int) int {
		b.lead(step, body(step), follow)
		return b.lead(bound, step)
	}
}
