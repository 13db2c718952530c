package printer

import "assessor/api"

// word writes a node that is a single word.
func (w *writer) word(n api.Node) { w.write(n.Text) }

func (w *writer) index(n api.Node) {
	w.kid(n, 0)
	w.write("[")
	w.kid(n, 1)
	w.write("]")
}

func (w *writer) member(n api.Node) {
	w.kid(n, 0)
	w.write(".", n.Text)
}

func (w *writer) length(n api.Node) {
	w.write("len(")
	w.kid(n, 0)
	w.write(")")
}

func (w *writer) array(n api.Node) {
	w.write("[")
	w.list(n)
	w.write("]")
}

func (w *writer) call(n api.Node) {
	w.write(n.Text, "(")
	w.list(n)
	w.write(")")
}

func (w *writer) unary(n api.Node) {
	w.write(n.Text)
	if n.Text == "not" {
		w.write(" ")
	}
	w.kid(n, 0)
}

func (w *writer) binary(n api.Node) {
	w.kid(n, 0)
	w.write(" ", n.Text, " ")
	w.kid(n, 1)
}
