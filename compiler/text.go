package compiler

import (
	"strconv"
	"strings"

	"assessor/api"
	"assessor/lexer"
)

const maxCodeText = 1 << 20

// Format returns the text of valid code.
func Format(c api.Code) string {
	if !Valid(c) {
		return ""
	}
	var b strings.Builder
	line := func(level int, word string, numbers ...int) {
		b.WriteString(strings.Repeat("  ", level))
		b.WriteString(word)
		for _, n := range numbers {
			b.WriteByte(' ')
			b.WriteString(strconv.Itoa(n))
		}
		b.WriteByte('\n')
	}
	for _, x := range c.Procedures {
		line(0, "proc "+x.Name, append([]int{x.Parameters, x.Slots, x.Result}, x.Outputs...)...)
		write(line, 1, x.Body)
		line(0, "end")
	}
	return b.String()
}

// write writes instructions with a function that writes a line.
func write(line func(int, string, ...int), level int, l []api.Instr) {
	for _, i := range l {
		s := shapes[i.Op]
		line(level, s.word, []int{i.A, i.B}[:s.operands]...)
		if !s.nests {
			continue
		}
		first, second := i.Body, i.Else
		if i.Op == api.InstrLoop {
			first, second = second, first
		}
		write(line, level+1, first)
		line(level, between(i.Op))
		write(line, level+1, second)
		line(level, "end")
	}
}

// between returns the word between the lists of an instruction that others belong to.
func between(op int) string {
	if op == api.InstrLoop {
		return "do"
	}
	return "else"
}

// Parse returns the code with a text.
func Parse(s string) (api.Code, api.Errno) {
	if len(s) > maxCodeText {
		return api.Code{}, api.ErrTooLarge
	}
	var c api.Code
	r := reader{rest: s}
	switch {
	case !succeeds(func() { c = r.code() }):
		return api.Code{}, api.ErrSyntax
	case !Valid(c):
		return api.Code{}, api.ErrArg
	}
	return c, api.OK
}

// reader reads a text line by line.
type reader struct{ rest string }

// line returns the words of the next line that is not empty; none at the end of the text.
func (r *reader) line() []string {
	for r.rest != "" {
		var line string
		line, r.rest, _ = strings.Cut(r.rest, "\n")
		words := strings.FieldsFunc(line, func(c rune) bool { return c == ' ' })
		if len(words) > 0 {
			return words
		}
	}
	return nil
}

func (r *reader) code() api.Code {
	var c api.Code
	for words := r.line(); words != nil; words = r.line() {
		demand(words[0] == "proc" && len(words) >= 5)
		l := numbers(words[2:5])
		x := api.CodeProcedure{Name: words[1], Parameters: l[0], Slots: l[1], Result: l[2], Outputs: numbers(words[5:])}
		x.Body = r.body()
		c.Procedures = append(c.Procedures, x)
	}
	return c
}

// open is an instruction that others belong to, of which the last line has not been read.
type open struct {
	before []api.Instr // those in front of it
	op     int
	middle bool        // the line between its lists has been read
	first  []api.Instr // its list in front of that line
}

// body reads the instructions of a procedure, and the line behind them. What is open stands in a list, because a text can have more levels than there may be calls of functions.
func (r *reader) body() []api.Instr {
	var outer []open
	var l []api.Instr
	for {
		words := r.line()
		demand(words != nil)
		last := len(outer) - 1
		switch word := strings.Join(words, " "); {
		case word == "end" && last < 0:
			return l
		case word == "end":
			demand(outer[last].middle)
			l = append(outer[last].before, outer[last].close(l))
			outer = outer[:last]
		case word == "else" || word == "do":
			demand(last >= 0 && !outer[last].middle && word == between(outer[last].op))
			outer[last].middle, outer[last].first = true, l
			l = nil
		default:
			i := instruction(words)
			if !shapes[i.Op].nests {
				l = append(l, i)
				continue
			}
			outer, l = append(outer, open{before: l, op: i.Op}), nil
		}
	}
}

// close returns the instruction with its second list.
func (o open) close(second []api.Instr) api.Instr {
	if o.op == api.InstrLoop {
		return api.Instr{Op: o.op, Body: second, Else: o.first}
	}
	return api.Instr{Op: o.op, Body: o.first, Else: second}
}

// instruction returns the one with the words of a line, without those that belong to it.
func instruction(words []string) api.Instr {
	op, ok := operation(words[0])
	demand(ok && len(words) == 1+shapes[op].operands)
	l := append(numbers(words[1:]), 0, 0)
	return api.Instr{Op: op, A: l[0], B: l[1]}
}

// operation returns the one with a word.
func operation(word string) (int, bool) {
	for op := range shapes {
		if shapes[op].word == word {
			return op, true
		}
	}
	return 0, false
}

// numbers returns those that words are.
func numbers(words []string) []int {
	var l []int
	for _, w := range words {
		digits, negative := strings.CutPrefix(w, "-")
		n, ok := lexer.Number(digits)
		demand(ok)
		if negative {
			n = -n
		}
		l = append(l, n)
	}
	return l
}
