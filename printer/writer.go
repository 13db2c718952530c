package printer

import (
	"strings"

	"assessor/api"
)

// writer collects the text of nodes; depth is how far the line that it writes is indented.
type writer struct {
	forms map[int]func(*writer, api.Node)
	text  strings.Builder
	depth int
	full  bool
}

func newWriter(depth int) *writer { return &writer{forms: forms(), depth: depth} }

// forms returns the functions that write the nodes of each kind.
func forms() map[int]func(*writer, api.Node) {
	return map[int]func(*writer, api.Node){
		api.NodeProgram:      (*writer).program,
		api.NodeRecord:       (*writer).record,
		api.NodeField:        (*writer).declared,
		api.NodeProcedure:    (*writer).procedure,
		api.NodeParameters:   (*writer).parameters,
		api.NodeParameter:    (*writer).declared,
		api.NodeVarParameter: (*writer).varParameter,
		api.NodeType:         (*writer).word,
		api.NodeArrayType:    (*writer).arrayType,
		api.NodeBlock:        (*writer).block,
		api.NodeVar:          (*writer).variable,
		api.NodeAssign:       (*writer).assignment,
		api.NodeIf:           (*writer).choice,
		api.NodeWhile:        (*writer).while,
		api.NodeFor:          (*writer).loop,
		api.NodeReturn:       (*writer).result,
		api.NodeAssert:       (*writer).assertion,
		api.NodeDo:           (*writer).do,
		api.NodeName:         (*writer).word,
		api.NodeIndex:        (*writer).index,
		api.NodeMember:       (*writer).member,
		api.NodeLen:          (*writer).length,
		api.NodeNumber:       (*writer).word,
		api.NodeBool:         (*writer).word,
		api.NodeList:         (*writer).array,
		api.NodeCall:         (*writer).call,
		api.NodeUnary:        (*writer).unary,
		api.NodeBinary:       (*writer).binary,
	}
}

// print returns the text of a node.
func (w *writer) print(n api.Node) (string, api.Errno) {
	w.node(n)
	if w.full {
		return "", api.ErrTooLarge
	}
	return w.text.String(), api.OK
}

// write adds words, as long as there is space for them.
func (w *writer) write(words ...string) {
	for _, s := range words {
		w.full = w.full || w.text.Len()+len(s) > api.MaxSource
		if w.full {
			return
		}
		w.text.WriteString(s)
	}
}

// node writes a node. Once the text is too long, nothing more is gone through: indented lines of deep trees would take too much time.
func (w *writer) node(n api.Node) {
	if form, ok := w.forms[n.Kind]; ok && !w.full {
		form(w, n)
	}
}

// kid writes a kid of a node, in parentheses if it needs them.
func (w *writer) kid(n api.Node, index int) {
	k := n.Kids[index]
	if !Parentheses(n, index, k) {
		w.node(k)
		return
	}
	w.write("(")
	w.node(k)
	w.write(")")
}

// list writes all kids of a node, with commas between them.
func (w *writer) list(n api.Node) {
	for i := range n.Kids {
		if i > 0 {
			w.write(", ")
		}
		w.kid(n, i)
	}
}

// typed writes a colon and a kid that is a type, if it is there.
func (w *writer) typed(n api.Node, index int) {
	if n.Kids[index].Kind != api.NodeNone {
		w.write(": ")
		w.kid(n, index)
	}
}
