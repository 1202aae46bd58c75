package lang

import (
	"go/ast"
	"go/build"
	"go/importer"
	"go/parser"
	"go/token"
	"go/types"
	"os/exec"
	"path/filepath"
	"strings"
	"testing"
)

// fixed: what of package math IEEE 754 fixes, to the bit.
const fixed = " Sqrt Floor Ceil Trunc Abs Mod IsNaN IsInf Inf NaN Signbit Copysign Float64bits Float64frombits "

// floats: the program's packages, read and with the types of what stands in them.
type floats struct {
	set   *token.FileSet
	info  *types.Info
	packs map[string]*types.Package
	files map[string][]*ast.File
	std   types.Importer
}

// Import: a package of the program by its path, or one of the library.
func (f *floats) Import(path string) (*types.Package, error) {
	folder, ours := strings.CutPrefix(path, "weir/")
	if !ours {
		return f.std.Import(path)
	}
	if p := f.packs[folder]; p != nil {
		return p, nil
	}
	names, err := filepath.Glob(filepath.Join("..", folder, "*.go"))
	if err != nil {
		return nil, err
	}
	for _, name := range names {
		if strings.HasSuffix(name, "_test.go") {
			continue
		}
		file, err := parser.ParseFile(f.set, name, nil, 0)
		if err != nil {
			return nil, err
		}
		f.files[folder] = append(f.files[folder], file)
	}
	config := types.Config{Importer: f}
	p, err := config.Check(path, f.set, f.files[folder], f.info)
	f.packs[folder] = p
	return p, err
}

// readFloats: all packages of the program.
func readFloats(t *testing.T) *floats {
	t.Helper()
	if build.Default.GOROOT == "" {
		root, _ := exec.Command("go", "env", "GOROOT").Output()
		build.Default.GOROOT = strings.TrimSpace(string(root))
	}
	f := &floats{set: token.NewFileSet(), packs: map[string]*types.Package{}, files: map[string][]*ast.File{}, info: &types.Info{Types: map[ast.Expr]types.TypeAndValue{}, Uses: map[*ast.Ident]types.Object{}}}
	f.std = importer.ForCompiler(f.set, "source", nil)
	for _, name := range sources(t) {
		if _, err := f.Import("weir/" + filepath.Base(filepath.Dir(name))); err != nil {
			t.Fatal(err)
		}
	}
	return f
}

// P1, rule 7: no product may be fused with a sum, and of package math only what IEEE 754 fixes is used. A machine that doesn't fuse can't tell a product that may be from one that may not: so the program's text is asked.
func TestFloats(t *testing.T) {
	f := readFloats(t)
	for _, files := range f.files {
		for _, file := range files {
			f.checkProducts(t, file)
			f.checkMath(t, file)
		}
	}
}

// checkProducts: a product of floats stands in a conversion, which rounds it, or goes into another product, a quotient or a comparison, with which none is fused.
func (f *floats) checkProducts(t *testing.T, file *ast.File) {
	rounded := map[ast.Expr]bool{}
	ast.Inspect(file, func(n ast.Node) bool {
		switch x := n.(type) {
		case *ast.CallExpr:
			if f.info.Types[x.Fun].IsType() {
				rounded[ast.Unparen(x.Args[0])] = true
			}
		case *ast.BinaryExpr:
			if x.Op != token.ADD && x.Op != token.SUB {
				rounded[ast.Unparen(x.X)], rounded[ast.Unparen(x.Y)] = true, true
			}
			if x.Op == token.MUL && f.fusible(x) && !rounded[x] {
				t.Errorf("%s: a product that may be fused", f.set.Position(x.Pos()))
			}
		case *ast.AssignStmt:
			if x.Tok == token.MUL_ASSIGN && f.fusible(x.Lhs[0]) {
				t.Errorf("%s: a product that may be fused", f.set.Position(x.Pos()))
			}
		}
		return true
	})
}

// fusible: is it a float or a complex number, and not one that is known ahead?
func (f *floats) fusible(x ast.Expr) bool {
	v := f.info.Types[x]
	if v.Value != nil || v.Type == nil {
		return false
	}
	basic, ok := v.Type.Underlying().(*types.Basic)
	return ok && basic.Info()&(types.IsFloat|types.IsComplex) != 0
}

// checkMath: of package math nothing but what is fixed, and constants.
func (f *floats) checkMath(t *testing.T, file *ast.File) {
	ast.Inspect(file, func(n ast.Node) bool {
		name, ok := n.(*ast.Ident)
		if !ok {
			return true
		}
		called, ok := f.info.Uses[name].(*types.Func)
		if ok && called.Pkg() != nil && called.Pkg().Path() == "math" && !strings.Contains(fixed, " "+called.Name()+" ") {
			t.Errorf("%s: math.%s", f.set.Position(name.Pos()), called.Name())
		}
		return true
	})
}
