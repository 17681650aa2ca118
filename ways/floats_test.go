package ways

import (
	"go/ast"
	"go/importer"
	"go/token"
	"go/types"
	"strings"
	"testing"
)

// typed is a layer's package with the types of what stands in it.
type typed struct {
	set   *token.FileSet
	files []*ast.File
	info  *types.Info
	pack  *types.Package
}

// reader finds the packages that a package imports: the project's by their folders, the library's by their sources.
type reader struct {
	t       *testing.T
	library types.Importer
	read    map[string]typed
}

func (r reader) Import(path string) (*types.Package, error) {
	folder, own := strings.CutPrefix(path, "diapason/")
	if !own {
		return r.library.Import(path)
	}
	return r.folder(folder).pack, nil
}

func (r reader) folder(folder string) typed {
	r.t.Helper()
	if read, ok := r.read[folder]; ok {
		return read
	}
	set := token.NewFileSet()
	read := typed{set: set, files: parsed(r.t, set, folder), info: &types.Info{Types: map[ast.Expr]types.TypeAndValue{}, Uses: map[*ast.Ident]types.Object{}}}
	var err error
	read.pack, err = (&types.Config{Importer: r}).Check("diapason/"+folder, set, read.files, read.info)
	if err != nil {
		r.t.Fatal(err)
	}
	r.read[folder] = read
	return read
}

func readTyped(t *testing.T, folder string) typed {
	t.Helper()
	return reader{t, importer.ForCompiler(token.NewFileSet(), "source", nil), map[string]typed{}}.folder(folder)
}

func hasFlag(t types.Type, flag types.BasicInfo) bool {
	basic, ok := t.Underlying().(*types.Basic)
	return ok && basic.Info()&flag != 0
}

func isFloat(t types.Type) bool { return hasFlag(t, types.IsFloat) }

// worksOutFloat: is a part worked out of floats, or told of them, when the program runs?
func (p typed) worksOutFloat(n ast.Node) bool {
	x, ok := n.(*ast.BinaryExpr)
	return ok && p.info.Types[x].Value == nil && isFloat(p.info.TypeOf(x.X))
}

// called: the function that a call names, if it does, and if that isn't one that the language has built in.
func (p typed) called(call *ast.CallExpr) *types.Func {
	var name *ast.Ident
	switch x := ast.Unparen(call.Fun).(type) {
	case *ast.Ident:
		name = x
	case *ast.SelectorExpr:
		name = x.Sel
	default:
		return nil
	}
	function, _ := p.info.Uses[name].(*types.Func)
	return function
}

// allOrNone: are all of the types floats (yes and no beside), or none?
func allOrNone(l []types.Type) bool {
	floats, others := 0, 0
	for _, t := range l {
		if isFloat(t) {
			floats++
		} else if !hasFlag(t, types.IsBoolean) {
			others++
		}
	}
	return floats == 0 || others == 0
}

func typesOf(tuples ...*types.Tuple) []types.Type {
	var l []types.Type
	for _, tuple := range tuples {
		for v := range tuple.Variables() {
			l = append(l, v.Type())
		}
	}
	return l
}

// leavesFloats: does a call make another thing of a float, or a float of another thing: by a conversion, or by a function of another package, such as those that tell a float's bits?
func (p typed) leavesFloats(n ast.Node) bool {
	call, ok := n.(*ast.CallExpr)
	if !ok || p.info.Types[call].Value != nil {
		return false
	}
	if p.info.Types[call.Fun].IsType() {
		return !allOrNone([]types.Type{p.info.TypeOf(call), p.info.TypeOf(call.Args[0])})
	}
	function := p.called(call)
	if function == nil || function.Pkg() == p.pack {
		return false
	}
	return !allOrNone(typesOf(function.Signature().Params(), function.Signature().Results()))
}

// looseProducts: the places of float products that stand in no conversion to float64 of their own: Go may fuse those with sums.
func (p typed) looseProducts() []token.Position {
	held := map[ast.Expr]bool{}
	var loose []token.Position
	look := func(n ast.Node) bool {
		switch x := n.(type) {
		case *ast.CallExpr:
			if fun := p.info.Types[x.Fun]; fun.IsType() && types.Identical(fun.Type, types.Typ[types.Float64]) {
				held[ast.Unparen(x.Args[0])] = true
			}
		case *ast.BinaryExpr:
			if x.Op == token.MUL && p.worksOutFloat(x) && !held[x] {
				loose = append(loose, p.set.Position(x.Pos()))
			}
		case *ast.AssignStmt:
			if x.Tok == token.MUL_ASSIGN && isFloat(p.info.TypeOf(x.Lhs[0])) {
				loose = append(loose, p.set.Position(x.Pos()))
			}
		}
		return true
	}
	for _, file := range p.files {
		ast.Inspect(file, look)
	}
	return loose
}

// heldToFloats: of the calls' parts, none makes floats of other things, or other things of floats.
func (p typed) heldToFloats(t *testing.T, calls ...string) {
	t.Helper()
	for _, call := range calls {
		for _, part := range layerOf(p.files).reach(call) {
			if holds(part, p.leavesFloats) {
				t.Errorf("%s reaches what makes floats of other things, or other things of floats: %s", call, p.set.Position(part.Pos()))
			}
		}
	}
}

// worksInFloats: each of the calls works something out of floats.
func (p typed) worksInFloats(t *testing.T, calls ...string) {
	t.Helper()
	for _, call := range calls {
		found := false
		for _, part := range layerOf(p.files).reach(call) {
			found = found || holds(part, p.worksOutFloat)
		}
		if !found {
			t.Errorf("%s works nothing out of floats", call)
		}
	}
}

// Layer 3: all is done in floats.
func TestAllIsDoneInFloats(t *testing.T) {
	eft, calls := readTyped(t, "eft"), []string{"Sum", "Split", "Prod", "Mild", "Scale", "Top"}
	eft.heldToFloats(t, calls...)
	eft.worksInFloats(t, calls...)
}

// Layer 4: numbers are pairs of floats.
func TestNumbersArePairsOfFloats(t *testing.T) {
	dd := readTyped(t, "dd")
	pair, ok := dd.pack.Scope().Lookup("Num").Type().Underlying().(*types.Struct)
	if !ok || pair.NumFields() != 2 || !isFloat(pair.Field(0).Type()) || !isFloat(pair.Field(1).Type()) {
		t.Errorf("Num is no pair of floats")
	}
	dd.heldToFloats(t, "New", "Add", "Neg", "Mul", "Quo", "Float", "Poly")
	dd.worksInFloats(t, "Add", "Mul", "Quo", "Poly")
}

// isVariadic: is a function's last parameter a variadic one?
func isVariadic(n ast.Node) bool {
	function, ok := n.(*ast.FuncDecl)
	if !ok || len(function.Type.Params.List) == 0 {
		return false
	}
	_, ok = function.Type.Params.List[len(function.Type.Params.List)-1].Type.(*ast.Ellipsis)
	return ok
}

// goesThroughVariadic: is a function's last parameter a variadic one, which a loop of its own goes through?
func goesThroughVariadic(n ast.Node) bool {
	if !isVariadic(n) {
		return false
	}
	function := n.(*ast.FuncDecl)
	last := function.Type.Params.List[len(function.Type.Params.List)-1]
	named := func(n ast.Node) bool {
		name, ok := n.(*ast.Ident)
		return ok && name.Name == last.Names[0].Name
	}
	return holds(function.Body, func(n ast.Node) bool {
		switch loop := n.(type) {
		case *ast.RangeStmt:
			return holds(loop.X, named)
		case *ast.ForStmt:
			return holds(loop.Body, named)
		}
		return false
	})
}

// Layer 4: a polynomial's coefficients come in through a variadic function.
func TestCoefficientsComeInThroughAVariadicFunction(t *testing.T) {
	if !goesThroughVariadic(read(t, "dd")["Poly"]) {
		t.Errorf("Poly goes through no coefficients that come in so")
	}
}

// Rule 7: a product is a float64 of its own.
func TestProductsAreNotFused(t *testing.T) {
	for _, folder := range []string{"eft", "dd", "trig", "cplx"} {
		for _, place := range readTyped(t, folder).looseProducts() {
			t.Errorf("a product that a sum may be fused with: %s", place)
		}
	}
}
