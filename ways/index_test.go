package ways

import (
	"go/ast"
	"go/types"
	"testing"
)

// ofAnyElements: is a function generic, with one type parameter, which any type may stand for?
func (p typed) ofAnyElements(n ast.Node) bool {
	declared, ok := n.(*ast.FuncDecl)
	if !ok {
		return false
	}
	function, ok := p.pack.Scope().Lookup(declared.Name.Name).(*types.Func)
	if !ok || function.Signature().TypeParams().Len() != 1 {
		return false
	}
	bound := function.Signature().TypeParams().At(0).Constraint()
	return types.Identical(bound.Underlying(), types.Universe.Lookup("any").Type().Underlying())
}

// isElement: is a type one that a generic function is told by its caller?
func isElement(t types.Type) bool {
	_, ok := t.(*types.TypeParam)
	return ok
}

// movesElement: is an element, as one of its own type, laid into a list?
func (p typed) movesElement(n ast.Node) bool {
	x, ok := n.(*ast.AssignStmt)
	if !ok || len(x.Lhs) != len(x.Rhs) {
		return false
	}
	for i, to := range x.Lhs {
		_, placed := to.(*ast.IndexExpr)
		if placed && isElement(p.info.TypeOf(to)) && isElement(p.info.TypeOf(x.Rhs[i])) {
			return true
		}
	}
	return false
}

// Layer 7: lists of any elements are moved by generic functions.
func TestListsAreMovedByGenericFunctions(t *testing.T) {
	index := readTyped(t, "index")
	declared := layerOf(index.files)
	for _, call := range []string{"Transpose", "Gather", "Scatter"} {
		found := false
		for _, part := range declared.reach(call) {
			found = found || index.ofAnyElements(part) && holds(part, index.movesElement)
		}
		if !found || !index.ofAnyElements(declared[call]) {
			t.Errorf("%s moves no elements by a generic function", call)
		}
	}
}

// Layer 7: radices come in through variadic functions.
func TestRadicesComeInThroughVariadicFunctions(t *testing.T) {
	index := read(t, "index")
	for _, call := range []string{"Digits", "Number", "Reverse"} {
		found := false
		for _, part := range index.reach(call) {
			found = found || goesThroughVariadic(part)
		}
		if !found || !isVariadic(index[call]) {
			t.Errorf("%s goes through no radices that come in so", call)
		}
	}
}
