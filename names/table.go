package names

import (
	"maps"
	"slices"
)

// scope is a part of a tree, with the names that are bound in it; it embeds the scope around it.
type scope struct {
	*scope
	own []string
}

// table is the names that are bound at a place, with the numbers of the nodes that declare them. No scope binds a name that is bound already, so that one map is enough for all of them.
type table struct {
	inner *scope
	bound map[string]int
}

func newTable() *table { return &table{bound: map[string]int{}} }

// within calls a function, and forgets the names that it has bound.
func (t *table) within(f func()) {
	t.inner = &scope{scope: t.inner}
	f()
	for _, name := range t.inner.own {
		delete(t.bound, name)
	}
	t.inner = t.inner.scope
}

// has reports whether a name is bound.
func (t *table) has(name string) bool {
	_, ok := t.bound[name]
	return ok
}

// bind binds a name in the innermost scope, unless it is bound already.
func (t *table) bind(name string, number int) {
	if t.has(name) {
		return
	}
	t.bound[name] = number
	t.inner.own = append(t.inner.own, name)
}

// numbers returns the numbers of all names in increasing order.
func (t *table) numbers() []int { return slices.Sorted(maps.Values(t.bound)) }
