package samples

import (
	"slices"
	"strconv"
	"strings"

	"assessor/api"
	"assessor/checker"
	"assessor/lexer"
	"assessor/types"
	"assessor/value"
)

// Exercise returns an exercise, which may be too large, and its checked program; false if the program is not right.
func Exercise(r Source) (api.Exercise, api.Program, bool) {
	_, s := either(r.Intn(2) == 0, Calm, Program)(r)
	p, wrong, e := checker.Check(s)
	if s == "" || len(wrong) > 0 || e != api.OK {
		return api.Exercise{}, p, false
	}
	entry := p.Procedures[r.Intn(len(p.Procedures))]
	x := api.Exercise{Source: s, Entry: entry.Name, Model: r.Intn(3) > 0, Bounds: api.Bounds{Width: 2 + r.Intn(7), Loops: r.Intn(4)}}
	parameters, results := signature(entry)
	if len(parameters)+len(results) <= api.MaxParameters && (!x.Model || r.Intn(2) == 0) {
		x.Accepts = "good"
		x.Source += condition(r, p, x.Accepts, slices.Concat(parameters, results))
	}
	if r.Intn(2) == 0 {
		x.Given = "given"
		x.Source += condition(r, p, x.Given, parameters)
	}
	for _, t := range types.Scalars(p.Records, parameters...) {
		x.Ranges = append(x.Ranges, interval(r, t, x.Bounds.Width))
	}
	p, wrong, e = checker.Check(x.Source)
	return x, p, len(wrong) == 0 && e == api.OK
}

// signature returns the types of the parameters and of the results of a procedure.
func signature(x api.Procedure) (parameters, results []api.Type) {
	for _, v := range x.Variables[:x.Parameters] {
		parameters = append(parameters, v.Type)
		if v.Var {
			results = append(results, v.Type)
		}
	}
	if x.Result.Kind != api.TypeNone {
		results = append(results, x.Result)
	}
	return parameters, results
}

// interval returns a small range of scalars of a type.
func interval(r Source, t api.Type, width int) api.Range {
	if t.Kind == api.TypeBool {
		lo := r.Intn(2)
		return api.Range{Lo: lo, Hi: lo + r.Intn(2-lo)}
	}
	lo := max(value.Least(width), r.Intn(5)-3)
	return api.Range{Lo: lo, Hi: min(value.Greatest(width), lo+r.Intn(3))}
}

// asker writes conditions.
type asker struct {
	Source
	ints, bools []string // expressions that can be used
}

func (a *asker) one(l ...string) string { return l[a.Intn(len(l))] }

// condition returns the text of a procedure that returns a bool and has parameters of some types.
func condition(r Source, p api.Program, name string, l []api.Type) string {
	a := asker{r, []string{"1", "0"}, []string{"true"}}
	var parameters []string
	for i, t := range l {
		v := "q" + strconv.Itoa(i)
		parameters = append(parameters, v+": "+types.Format(t))
		a.use(p, v, t)
	}
	body := a.one("", "assert "+a.ask()+"; ", "while "+a.ask()+" { return "+a.ask()+"; } ") + "return " + a.ask() + ";"
	return " proc " + name + "(" + strings.Join(parameters, ", ") + "): bool { " + body + " }"
}

// use lets a variable of a type be used.
func (a *asker) use(p api.Program, v string, t api.Type) {
	for k, s := range types.Scalars(p.Records, t) {
		x := v
		switch t.Kind {
		case api.TypeArray:
			x += "[" + strconv.Itoa(k) + "]"
		case api.TypeRecord:
			i := slices.IndexFunc(p.Records, func(r api.Record) bool { return r.Name == t.Record })
			x += "." + p.Records[i].Fields[k].Name
		}
		if s.Kind == api.TypeBool {
			a.bools = append(a.bools, x)
		} else {
			a.ints = append(a.ints, x)
		}
	}
}

func (a *asker) ask() string {
	switch a.Intn(6) {
	case 0:
		return a.one(a.bools...) + a.one(" or ", " and not ") + a.one(a.bools...)
	case 1:
		return "3 / (" + a.one(a.ints...) + a.one(" + ", " - ") + a.one(a.ints...) + ") > 0"
	case 2:
		return a.one(a.bools...) + a.one(" or ", " and ") + a.one(a.ints...) + " != 0"
	}
	return a.one(a.ints...) + a.one(" < ", " <= ", " != ") + a.one(a.ints...)
}

// Changed returns a text in which some words are replaced by others.
func Changed(r Source, s string) string {
	others := map[string][]string{"+": {"-", "*", "/"}, "-": {"+"}, "*": {"+"}, "/": {"*", "%"}, "%": {"/"}, "<": {"<=", ">"}, "<=": {"<"}, ">": {"<", ">="}, ">=": {">"}, "==": {"!="}, "!=": {"=="}, "and": {"or"}, "or": {"and"}, "true": {"false"}, "false": {"true"}, "0": {"1"}, "1": {"0", "2"}, "2": {"1", "7"}, "7": {"3"}}
	tokens, _ := lexer.Scan(s)
	words := lexer.Words(s, tokens)
	var places []int
	for i, word := range words {
		if others[word] != nil {
			places = append(places, i)
		}
	}
	for range r.Intn(6) {
		if len(places) > 0 {
			i := places[r.Intn(len(places))]
			if l := others[words[i]]; l != nil {
				words[i] = l[r.Intn(len(l))]
			}
		}
	}
	return strings.Join(words, " ")
}
