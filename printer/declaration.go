package printer

import "assessor/api"

func (w *writer) program(n api.Node) {
	for i := range n.Kids {
		w.kid(n, i)
		w.write("\n")
	}
}

func (w *writer) record(n api.Node) {
	w.write("record ", n.Text, " { ")
	w.list(n)
	w.write(" }")
}

// declared writes a field or a parameter.
func (w *writer) declared(n api.Node) {
	w.write(n.Text)
	w.typed(n, 0)
}

func (w *writer) varParameter(n api.Node) {
	w.write("var ")
	w.declared(n)
}

func (w *writer) procedure(n api.Node) {
	w.write("proc ", n.Text)
	w.kid(n, 0)
	w.typed(n, 1)
	w.write(" ")
	w.kid(n, 2)
}

func (w *writer) parameters(n api.Node) {
	w.write("(")
	w.list(n)
	w.write(")")
}

func (w *writer) arrayType(n api.Node) { w.write("int[", n.Text, "]") }
