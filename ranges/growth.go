package ranges

import (
	"maps"
	"slices"
	"strconv"

	"assessor/api"
)

// growths returns by how much a round of a for changes each of its variables, and whether the for grows.
func (s *source) growths(loop int) ([]api.Growth, bool) {
	block := s.kids[loop][2]
	steps := map[int]int{}
	for _, statement := range s.kids[block] {
		g, ok := s.growth(statement)
		if !ok {
			return nil, false
		}
		steps[g.Variable] += g.Step
	}
	var l []api.Growth
	for _, variable := range slices.Sorted(maps.Keys(steps)) {
		l = append(l, api.Growth{Variable: variable, Step: steps[variable]})
	}
	return l, true
}

// growth returns by how much a statement changes a variable, and whether it does nothing else.
func (s *source) growth(statement int) (api.Growth, bool) {
	if s.nodes[statement].Kind != api.NodeAssign {
		return api.Growth{}, false
	}
	place, expression := s.kids[statement][0], s.kids[statement][1]
	x := s.nodes[expression]
	if s.nodes[place].Kind != api.NodeName || x.Kind != api.NodeBinary || x.Text != "+" && x.Text != "-" {
		return api.Growth{}, false
	}
	name, number := s.kids[expression][0], s.kids[expression][1]
	if x.Text == "+" && s.nodes[name].Kind == api.NodeNumber {
		name, number = number, name
	}
	if s.nodes[name].Kind != api.NodeName || s.nodes[number].Kind != api.NodeNumber || s.program.Names[name] != s.program.Names[place] {
		return api.Growth{}, false
	}
	step, _ := strconv.Atoi(s.nodes[number].Text)
	if x.Text == "-" {
		step = -step
	}
	return api.Growth{Variable: s.program.Names[place], Step: step}, true
}
