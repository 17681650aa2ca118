package mod

import (
	"go/ast"
	"go/parser"
	"go/token"
	"testing"
)

// functions: the functions that a file declares, by their names.
func functions(t *testing.T, file string) map[string]*ast.FuncDecl {
	parsed, err := parser.ParseFile(token.NewFileSet(), file, nil, 0)
	if err != nil {
		t.Fatal(err)
	}
	found := map[string]*ast.FuncDecl{}
	for _, d := range parsed.Decls {
		if f, ok := d.(*ast.FuncDecl); ok {
			found[f.Name.Name] = f
		}
	}
	return found
}

// indexesPair: does a function, or one that it names, hold a pair in an array and take its parts from there?
func indexesPair(all map[string]*ast.FuncDecl, name string, seen map[string]bool) bool {
	f := all[name]
	if f == nil || seen[name] {
		return false
	}
	seen[name] = true
	array, index, further := false, false, false
	ast.Inspect(f, func(n ast.Node) bool {
		switch x := n.(type) {
		case *ast.ArrayType:
			length, ok := x.Len.(*ast.BasicLit)
			array = array || ok && length.Value == "2"
		case *ast.IndexExpr:
			index = true
		case *ast.Ident:
			further = further || indexesPair(all, x.Name, seen)
		}
		return true
	})
	return array && index || further
}

// DOC.md's section 'Ways', layer 1: pairs of remainders stand in an array. Those are the pairs of Euclid's algorithm, on which three of the calls lean.
func TestPairsStandInArray(t *testing.T) {
	all := functions(t, "mod.go")
	for _, name := range []string{"Gcd", "Inverse", "Lcm"} {
		if !indexesPair(all, name, map[string]bool{}) {
			t.Errorf("%s reaches no pair in an array", name)
		}
	}
}
