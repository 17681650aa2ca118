// Package ways holds the layers to what DOC.md's section 'Ways' says that they are built of.
package ways

import (
	"go/ast"
	"go/parser"
	"go/token"
	"path/filepath"
	"strings"
	"testing"
)

// layer: what a layer's package declares outside of functions, by name.
type layer map[string]ast.Node

// parsed: the files of a layer's package, but for its tests.
func parsed(t *testing.T, set *token.FileSet, folder string) []*ast.File {
	t.Helper()
	names, err := filepath.Glob("../" + folder + "/*.go")
	if err != nil || len(names) == 0 {
		t.Fatal(folder, err)
	}
	var files []*ast.File
	for _, name := range names {
		if strings.HasSuffix(name, "_test.go") {
			continue
		}
		file, err := parser.ParseFile(set, name, nil, 0)
		if err != nil {
			t.Fatal(err)
		}
		files = append(files, file)
	}
	return files
}

func read(t *testing.T, folder string) layer {
	t.Helper()
	return layerOf(parsed(t, token.NewFileSet(), folder))
}

func layerOf(files []*ast.File) layer {
	found := layer{}
	for _, file := range files {
		for _, d := range file.Decls {
			found.add(d)
		}
	}
	return found
}

func (l layer) add(d ast.Decl) {
	switch x := d.(type) {
	case *ast.FuncDecl:
		l[x.Name.Name] = x
	case *ast.GenDecl:
		for _, spec := range x.Specs {
			if value, ok := spec.(*ast.ValueSpec); ok {
				for _, name := range value.Names {
					l[name.Name] = value
				}
			}
		}
	}
}

// reach: what a call leans on: its own declaration, and those that it names, straight or through others.
func (l layer) reach(call string) []ast.Node {
	names, seen := []string{call}, map[string]bool{call: true}
	var reached []ast.Node
	for i := 0; i < len(names); i++ {
		declared := l[names[i]]
		if declared == nil {
			continue
		}
		reached = append(reached, declared)
		ast.Inspect(declared, func(n ast.Node) bool {
			if name, ok := n.(*ast.Ident); ok && !seen[name.Name] {
				seen[name.Name] = true
				names = append(names, name.Name)
			}
			return true
		})
	}
	return reached
}

// holds: is there something of a form in a part of the program?
func holds(part ast.Node, form func(ast.Node) bool) bool {
	found := false
	ast.Inspect(part, func(n ast.Node) bool {
		found = found || n != nil && form(n)
		return !found
	})
	return found
}

// isPair: the type of an array of two.
func isPair(n ast.Node) bool {
	array, ok := n.(*ast.ArrayType)
	if !ok {
		return false
	}
	length, ok := array.Len.(*ast.BasicLit)
	return ok && length.Value == "2"
}

func isIndexed(n ast.Node) bool {
	_, ok := n.(*ast.IndexExpr)
	return ok
}

// isArray: a name of the package whose value is an array, written out.
func (l layer) isArray(e ast.Expr) bool {
	name, ok := e.(*ast.Ident)
	if !ok {
		return false
	}
	declared, ok := l[name.Name].(*ast.ValueSpec)
	if !ok || len(declared.Values) != 1 {
		return false
	}
	written, ok := declared.Values[0].(*ast.CompositeLit)
	if !ok {
		return false
	}
	array, ok := written.Type.(*ast.ArrayType)
	return ok && array.Len != nil
}

// Layer 1: pairs of remainders stand in an array. Those are the pairs of Euclid's algorithm, on which three of the calls lean.
func TestPairsOfRemaindersStandInAnArray(t *testing.T) {
	mod := read(t, "mod")
	for _, call := range []string{"Gcd", "Inverse", "Lcm"} {
		found := false
		for _, part := range mod.reach(call) {
			found = found || holds(part, isPair) && holds(part, isIndexed)
		}
		if !found {
			t.Errorf("%s reaches no pair in an array", call)
		}
	}
}

// Layer 2: the bases stand in an array. All calls lean on the test of primes, which goes through them.
func TestBasesStandInAnArray(t *testing.T) {
	prime := read(t, "prime")
	goesThroughArray := func(n ast.Node) bool {
		loop, ok := n.(*ast.RangeStmt)
		return ok && prime.isArray(loop.X)
	}
	for _, call := range []string{"Is", "Factor", "Order", "Root"} {
		found := false
		for _, part := range prime.reach(call) {
			found = found || holds(part, goesThroughArray)
		}
		if !found {
			t.Errorf("%s goes through no bases in an array", call)
		}
	}
}

// guardedByClosure: is a function's only list handed to a call together with a closure that is asked of its numbers?
func guardedByClosure(n ast.Node) bool {
	function, ok := n.(*ast.FuncDecl)
	if !ok || len(function.Type.Params.List) != 1 || len(function.Type.Params.List[0].Names) != 1 {
		return false
	}
	list := function.Type.Params.List[0].Names[0].Name
	return holds(function.Body, func(n ast.Node) bool {
		call, ok := n.(*ast.CallExpr)
		if !ok || len(call.Args) != 2 {
			return false
		}
		name, isName := call.Args[0].(*ast.Ident)
		closure, isClosure := call.Args[1].(*ast.FuncLit)
		return isName && name.Name == list && isClosure && len(closure.Type.Params.List) == 1
	})
}

// Layer 6: a list is guarded by a closure.
func TestListIsGuardedByAClosure(t *testing.T) {
	if !guardedByClosure(read(t, "cplx")["Guard"]) {
		t.Errorf("Guard hands its list to no closure")
	}
}
