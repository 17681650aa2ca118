package ways

import (
	"go/ast"
	"go/importer"
	"go/token"
	"go/types"
	"testing"
)

// typed is a layer's package with the types of what stands in it.
type typed struct {
	set   *token.FileSet
	files []*ast.File
	info  *types.Info
	pack  *types.Package
}

// readTyped: of a package that imports the library's packages alone.
func readTyped(t *testing.T, folder string) typed {
	t.Helper()
	set := token.NewFileSet()
	read := typed{set: set, files: parsed(t, set, folder), info: &types.Info{Types: map[ast.Expr]types.TypeAndValue{}, Uses: map[*ast.Ident]types.Object{}}}
	var err error
	read.pack, err = (&types.Config{Importer: importer.ForCompiler(set, "source", nil)}).Check("diapason/"+folder, set, read.files, read.info)
	if err != nil {
		t.Fatal(err)
	}
	return read
}

func hasFlag(t types.Type, flag types.BasicInfo) bool {
	basic, ok := t.Underlying().(*types.Basic)
	return ok && basic.Info()&flag != 0
}

func isFloat(t types.Type) bool { return hasFlag(t, types.IsFloat) }

// worksOutFloat: is a part worked out of floats, or told of them, when the program runs?
func (p typed) worksOutFloat(n ast.Node) bool {
	x, ok := n.(*ast.BinaryExpr)
	return ok && p.info.Types[x].Value == nil && isFloat(p.info.TypeOf(x.X))
}

// called: the function that a call names, if it does, and if that isn't one that the language has built in.
func (p typed) called(call *ast.CallExpr) *types.Func {
	var name *ast.Ident
	switch x := ast.Unparen(call.Fun).(type) {
	case *ast.Ident:
		name = x
	case *ast.SelectorExpr:
		name = x.Sel
	default:
		return nil
	}
	function, _ := p.info.Uses[name].(*types.Func)
	return function
}

// allOrNone: are all of the types floats (yes and no beside), or none?
func allOrNone(l []types.Type) bool {
	floats, others := 0, 0
	for _, t := range l {
		if isFloat(t) {
			floats++
		} else if !hasFlag(t, types.IsBoolean) {
			others++
		}
	}
	return floats == 0 || others == 0
}

func typesOf(tuples ...*types.Tuple) []types.Type {
	var l []types.Type
	for _, tuple := range tuples {
		for v := range tuple.Variables() {
			l = append(l, v.Type())
		}
	}
	return l
}

// leavesFloats: does a call make another thing of a float, or a float of another thing: by a conversion, or by a function of another package, such as those that tell a float's bits?
func (p typed) leavesFloats(n ast.Node) bool {
	call, ok := n.(*ast.CallExpr)
	if !ok || p.info.Types[call].Value != nil {
		return false
	}
	if p.info.Types[call.Fun].IsType() {
		return !allOrNone([]types.Type{p.info.TypeOf(call), p.info.TypeOf(call.Args[0])})
	}
	function := p.called(call)
	if function == nil || function.Pkg() == p.pack {
		return false
	}
	return !allOrNone(typesOf(function.Signature().Params(), function.Signature().Results()))
}

// looseProducts: the places of float products that stand in no conversion to float64 of their own: Go may fuse those with sums.
func (p typed) looseProducts() []token.Position {
	held := map[ast.Expr]bool{}
	var loose []token.Position
	look := func(n ast.Node) bool {
		switch x := n.(type) {
		case *ast.CallExpr:
			if fun := p.info.Types[x.Fun]; fun.IsType() && types.Identical(fun.Type, types.Typ[types.Float64]) {
				held[ast.Unparen(x.Args[0])] = true
			}
		case *ast.BinaryExpr:
			if x.Op == token.MUL && p.worksOutFloat(x) && !held[x] {
				loose = append(loose, p.set.Position(x.Pos()))
			}
		case *ast.AssignStmt:
			if x.Tok == token.MUL_ASSIGN && isFloat(p.info.TypeOf(x.Lhs[0])) {
				loose = append(loose, p.set.Position(x.Pos()))
			}
		}
		return true
	}
	for _, file := range p.files {
		ast.Inspect(file, look)
	}
	return loose
}

// Layer 3: all is done in floats.
func TestAllIsDoneInFloats(t *testing.T) {
	eft := readTyped(t, "eft")
	for _, call := range []string{"Sum", "Split", "Prod", "Mild", "Scale", "Top"} {
		found := false
		for _, part := range layerOf(eft.files).reach(call) {
			found = found || holds(part, eft.worksOutFloat)
			if holds(part, eft.leavesFloats) {
				t.Errorf("%s reaches what makes floats of other things, or other things of floats: %s", call, eft.set.Position(part.Pos()))
			}
		}
		if !found {
			t.Errorf("%s works nothing out of floats", call)
		}
	}
}

// Rule 7: a product is a float64 of its own.
func TestProductsAreNotFused(t *testing.T) {
	for _, place := range readTyped(t, "eft").looseProducts() {
		t.Errorf("a product that a sum may be fused with: %s", place)
	}
}
