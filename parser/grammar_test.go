package parser_test

import (
	"math/rand"
	"regexp"
	"slices"
	"sort"
	"strings"
	"testing"

	"assessor/api"
	"assessor/lexer"
	"assessor/parser"
)

// grammar is the grammar of the chapter, word by word.
const grammar = `
program    = { record | procedure } .
record     = "record" NAME "{" field { "," field } "}" .        field = NAME ":" ( "int" | "bool" ) .
procedure  = "proc" NAME parameters [ ":" type ] block .
parameters = "(" [ parameter { "," parameter } ] ")" .          parameter  = [ "var" ] NAME [ ":" type ] .
type       = "int" | "bool" | "int" "[" NUMBER "]" | NAME .
block      = "{" { statement } "}" .
statement  = "var" NAME [ ":" type ] "=" expression ";" | place "=" expression ";"
           | if | "while" expression block | "for" NAME "=" expression "to" expression block
           | "return" [ expression ] ";" | "assert" expression ";" | NAME arguments ";" .
if         = "if" expression block [ "else" ( block | if ) ] .
arguments  = "(" [ expression { "," expression } ] ")" .
place      = NAME | NAME "[" expression "]" | NAME "." NAME .
expression = conjunction { "or" conjunction } .                 conjunction = negation { "and" negation } .
negation   = "not" negation | comparison .
comparison = sum [ ( "==" | "!=" | "<" | "<=" | ">" | ">=" ) sum ] .
sum        = product { ( "+" | "-" ) product } .                product = unary { ( "*" | "/" | "%" ) unary } .
unary      = "-" unary | primary .
primary    = NUMBER | "true" | "false" | place | NAME arguments | "[" expression { "," expression } "]"
           | "len" "(" NAME ")" | "(" expression ")" .
`

// rule is a part of the grammar: a word, a name of a rule or of a kind of tokens, or a sequence, an alternative, an option or a repetition of parts.
type rule struct {
	op   byte // w, n, s, a, o, r
	text string
	kids []*rule
}

// rules reads the grammar.
func rules() map[string]*rule {
	words := regexp.MustCompile(`"[^"]*"|[A-Za-z]+|[^\s]`).FindAllString(grammar, -1)
	var alternative func() *rule
	part := func() *rule {
		w := words[0]
		words = words[1:]
		if close := map[string]string{"(": ")", "[": "]", "{": "}"}[w]; close != "" {
			r := alternative()
			if words[0] != close {
				panic(words[0])
			}
			words = words[1:]
			switch w {
			case "[":
				return &rule{op: 'o', kids: []*rule{r}}
			case "{":
				return &rule{op: 'r', kids: []*rule{r}}
			}
			return r
		}
		if w[0] == '"' {
			return &rule{op: 'w', text: w[1 : len(w)-1]}
		}
		return &rule{op: 'n', text: w}
	}
	sequence := func() *rule {
		r := &rule{op: 's'}
		for !strings.Contains(".|)]}", words[0]) {
			r.kids = append(r.kids, part())
		}
		return r
	}
	alternative = func() *rule {
		r := &rule{op: 'a', kids: []*rule{sequence()}}
		for words[0] == "|" {
			words = words[1:]
			r.kids = append(r.kids, sequence())
		}
		if len(r.kids) == 1 {
			return r.kids[0]
		}
		return r
	}
	l := map[string]*rule{}
	for len(words) > 0 {
		name := words[0]
		words = words[2:]
		l[name] = alternative()
		words = words[1:]
	}
	return l
}

// machine executes the grammar on tokens; what it reads has no tree.
type machine struct {
	rules  map[string]*rule
	text   string
	tokens []api.Token
	at     int
	found  []api.Diagnostic
}

// starts returns the words with which two tokens in a row can begin a part, and whether the part can be empty. The second one is empty if the part can end before it.
func (m *machine) starts(r *rule, more bool) (map[[2]string]bool, bool) {
	set := map[[2]string]bool{}
	switch r.op {
	case 'w':
		return map[[2]string]bool{{r.text, ""}: true}, false
	case 'n':
		if r.text == "NAME" || r.text == "NUMBER" {
			return map[[2]string]bool{{r.text, ""}: true}, false
		}
		return m.starts(m.rules[r.text], more)
	case 'o', 'r':
		set, _ = m.starts(r.kids[0], more)
		return set, true
	case 'a':
		empty := false
		for _, k := range r.kids {
			l, e := m.starts(k, more)
			empty = empty || e
			for x := range l {
				set[x] = true
			}
		}
		return set, empty
	}
	for i, k := range r.kids {
		l, empty := m.starts(k, more)
		for x := range l {
			if x[1] != "" || !more || i+1 == len(r.kids) {
				set[x] = true
				continue
			}
			rest, none := m.starts(&rule{op: 's', kids: r.kids[i+1:]}, false)
			for y := range rest {
				set[[2]string{x[0], y[0]}] = true
			}
			if none {
				set[x] = true
			}
		}
		if !empty {
			return set, false
		}
	}
	return set, true
}

// word returns the word of a token, or its kind.
func (m *machine) word(at int) string {
	t := m.tokens[min(at, len(m.tokens)-1)]
	switch t.Kind {
	case api.TokenName:
		return "NAME"
	case api.TokenNumber:
		return "NUMBER"
	case api.TokenEnd:
		return "END"
	}
	return m.text[t.At:t.End]
}

func (m *machine) begins(r *rule) bool {
	l, _ := m.starts(r, false)
	return l[[2]string{m.word(m.at), ""}]
}

func (m *machine) report(code int, text string) {
	t := m.tokens[m.at]
	if n := len(m.found); n == 0 || m.found[n-1].At != t.At {
		m.found = append(m.found, api.Diagnostic{Code: code, At: t.At, End: t.End, Text: text})
	}
}

func (m *machine) demand(word, text string) {
	if m.word(m.at) == word {
		m.at++
		return
	}
	m.report(api.DiagExpected, text)
}

func (m *machine) run(r *rule) {
	switch r.op {
	case 'w':
		m.demand(r.text, r.text)
	case 'n':
		m.named(r.text)
	case 's':
		for i, k := range r.kids {
			if k.op == 'o' && i+1 < len(r.kids) && r.kids[i+1].text == ")" {
				if m.word(m.at) != ")" {
					m.run(k.kids[0])
				}
				continue
			}
			m.run(k)
		}
	case 'a':
		m.choose(r.kids)
	case 'o':
		if m.begins(r.kids[0]) {
			m.run(r.kids[0])
		}
	case 'r':
		for m.begins(r.kids[0]) {
			m.run(r.kids[0])
		}
	}
}

// choose runs the alternative that fits to the next token, or to the next two ones if several fit.
func (m *machine) choose(l []*rule) {
	var fit []*rule
	for _, k := range l {
		if m.begins(k) {
			fit = append(fit, k)
		}
	}
	for _, k := range fit {
		two, _ := m.starts(k, true)
		if two[[2]string{m.word(m.at), m.word(m.at + 1)}] {
			m.run(k)
			return
		}
	}
	if len(fit) > 0 {
		m.run(fit[0])
		return
	}
	switch first := l[0].kids[0]; {
	case first.text == "int":
		m.report(api.DiagExpected, "type")
	case first.text == "block":
		m.run(l[0])
	default:
		m.run(l[len(l)-1])
	}
}

func (m *machine) named(name string) {
	in := func(words ...string) bool { return slices.Contains(words, m.word(m.at)) }
	switch {
	case name == "NAME":
		m.demand(name, "name")
	case name == "NUMBER":
		m.demand(name, "number")
	case name == "primary" && !m.begins(m.rules[name]):
		m.report(api.DiagExpression, "")
	case name == "block" && !in("{"):
		m.report(api.DiagExpected, "{")
	case name == "block":
		for m.at++; !in("}", "proc", "record", "END"); {
			m.named("statement")
		}
		m.demand("}", "}")
	case name == "statement" && !m.begins(m.rules[name]):
		m.report(api.DiagStatement, "")
		for !in("}", "proc", "record", "END", "var", "if", "while", "for", "return", "assert") {
			m.at++
			if m.text[m.tokens[m.at-1].At] == ';' {
				break
			}
		}
	case name == "program":
		for !in("END") {
			if in("record") {
				m.named("record")
			} else if in("proc") {
				m.named("procedure")
			} else {
				m.report(api.DiagDeclaration, "")
				for !in("END", "proc", "record") {
					m.at++
				}
			}
		}
	default:
		m.run(m.rules[name])
	}
}

// oracle returns what is wrong with a text that should be what a rule says.
func oracle(s, name string) []api.Diagnostic {
	tokens, _ := lexer.Scan(s)
	m := machine{rules: rules(), text: s}
	var l []api.Diagnostic
	for _, t := range tokens {
		word := s[t.At:t.End]
		switch {
		case t.Kind == api.TokenWrong:
			l = append(l, api.Diagnostic{Code: api.DiagByte, At: t.At, End: t.End})
			continue
		case t.Kind == api.TokenNumber && len(word) > 9:
			l = append(l, api.Diagnostic{Code: api.DiagNumber, At: t.At, End: t.End})
		case t.Kind == api.TokenName && len(word) > 16:
			l = append(l, api.Diagnostic{Code: api.DiagLong, At: t.At, End: t.End})
		}
		m.tokens = append(m.tokens, t)
	}
	m.named(name)
	if t := m.tokens[m.at]; t.Kind != api.TokenEnd {
		m.found = append(m.found, api.Diagnostic{Code: api.DiagExpected, At: t.At, End: t.End, Text: "end"})
	}
	l = append(l, m.found...)
	sort.SliceStable(l, func(i, j int) bool { return l[i].At < l[j].At })
	return l
}

// TestProblemsLikeGrammar compares what is wrong with random texts with what the execution of the grammar finds.
func TestProblemsLikeGrammar(t *testing.T) {
	r := rand.New(rand.NewSource(5))
	compare := func(s string) {
		for name, read := range map[string]func(string) (api.Node, []api.Diagnostic, api.Errno){"program": parser.Parse, "expression": parser.Expression, "statement": parser.Statement} {
			_, l, e := read(s)
			if want := oracle(s, name); problems(l) != problems(want) || e != api.OK {
				t.Fatalf("%s %q: %s (%s) %v", name, s, problems(l), problems(want), e)
			}
		}
	}
	for range 1000 {
		compare(randomTokens(r, r.Intn(12)))
		w := newWriter(r)
		w.node(randomProgram(r))
		l, _ := lexer.Scan(w.text)
		words := lexer.Words(w.text, l)
		if len(words) > 200 {
			continue
		}
		for range r.Intn(4) {
			i := r.Intn(len(words))
			switch r.Intn(3) {
			case 0:
				words = slices.Delete(words, i, i+1)
			case 1:
				words = slices.Insert(words, i, randomTokens(r, 1))
			case 2:
				words[i] = randomTokens(r, 1)
			}
			words = append(words, "")
		}
		compare(strings.Join(words, " "))
	}
}
