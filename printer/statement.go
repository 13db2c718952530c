package printer

import (
	"strings"

	"assessor/api"
)

func (w *writer) block(n api.Node) {
	w.write("{\n")
	w.depth++
	for i := 0; i < len(n.Kids) && !w.full; i++ {
		w.indent()
		w.kid(n, i)
		w.write("\n")
	}
	w.depth--
	w.indent()
	w.write("}")
}

// indent begins a line.
func (w *writer) indent() { w.write(strings.Repeat("  ", w.depth)) }

func (w *writer) variable(n api.Node) {
	w.write("var ", n.Text)
	w.typed(n, 0)
	w.write(" = ")
	w.kid(n, 1)
	w.write(";")
}

func (w *writer) assignment(n api.Node) {
	w.kid(n, 0)
	w.write(" = ")
	w.kid(n, 1)
	w.write(";")
}

func (w *writer) choice(n api.Node) {
	w.write("if ")
	w.kid(n, 0)
	w.write(" ")
	w.kid(n, 1)
	if n.Kids[2].Kind != api.NodeNone {
		w.write(" else ")
		w.kid(n, 2)
	}
}

func (w *writer) while(n api.Node) {
	w.write("while ")
	w.kid(n, 0)
	w.write(" ")
	w.kid(n, 1)
}

func (w *writer) loop(n api.Node) {
	w.write("for ", n.Text, " = ")
	w.kid(n, 0)
	w.write(" to ")
	w.kid(n, 1)
	w.write(" ")
	w.kid(n, 2)
}

func (w *writer) result(n api.Node) {
	w.write("return")
	if n.Kids[0].Kind != api.NodeNone {
		w.write(" ")
		w.kid(n, 0)
	}
	w.write(";")
}

func (w *writer) assertion(n api.Node) {
	w.write("assert ")
	w.kid(n, 0)
	w.write(";")
}

func (w *writer) do(n api.Node) {
	w.call(n)
	w.write(";")
}
