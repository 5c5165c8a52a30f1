package latch_test

import (
	"go/ast"
	"go/parser"
	"go/token"
	"go/types"
	"path/filepath"
	"strings"
	"testing"
)

// variables looks at the variables at package level of one package: each has a
// value that is written out, and none is changed, nor can it be by an address.
type variables struct {
	files  *token.FileSet
	info   types.Info
	faults []string
}

func (v *variables) fault(at ast.Node, text string) {
	v.faults = append(v.faults, v.files.Position(at.Pos()).String()+": "+text)
}

// Import answers an empty package: whose a name is can be told without it.
func (v *variables) Import(path string) (*types.Package, error) {
	empty := types.NewPackage(path, path[strings.LastIndex(path, "/")+1:])
	empty.MarkComplete()
	return empty, nil
}

// ofPackage tells whether an expression is a variable at package level, or a
// part of one.
func (v *variables) ofPackage(e ast.Expr) bool {
	switch x := e.(type) {
	case *ast.Ident:
		o, ok := v.info.Uses[x].(*types.Var)
		return ok && o.Pkg() != nil && o.Parent() == o.Pkg().Scope()
	case *ast.SelectorExpr:
		return v.ofPackage(x.X)
	case *ast.IndexExpr:
		return v.ofPackage(x.X)
	case *ast.ParenExpr:
		return v.ofPackage(x.X)
	}
	return false
}

// lookAtUse looks for what changes a variable or takes its address.
func (v *variables) lookAtUse(n ast.Node) bool {
	var changed []ast.Expr
	switch x := n.(type) {
	case *ast.AssignStmt:
		changed = x.Lhs
	case *ast.IncDecStmt:
		changed = []ast.Expr{x.X}
	case *ast.RangeStmt:
		changed = []ast.Expr{x.Key, x.Value}
	case *ast.UnaryExpr:
		if x.Op == token.AND {
			changed = []ast.Expr{x.X}
		}
	case *ast.SliceExpr:
		changed = []ast.Expr{x.X}
	case *ast.SelectorExpr:
		if s := v.info.Selections[x]; s != nil && s.Kind() == types.MethodVal {
			if _, pointer := s.Obj().(*types.Func).Signature().Recv().Type().(*types.Pointer); pointer {
				changed = []ast.Expr{x.X}
			}
		}
	}
	for _, e := range changed {
		if v.ofPackage(e) {
			v.fault(n, "a variable at package level is assigned, or its address taken")
		}
	}
	return true
}

// writtenOut tells whether a value is made of literals and constants alone.
func (v *variables) writtenOut(e ast.Expr) bool {
	switch x := e.(type) {
	case *ast.CompositeLit:
		if _, isMap := x.Type.(*ast.MapType); isMap {
			return false
		}
		for _, part := range x.Elts {
			if pair, ok := part.(*ast.KeyValueExpr); ok {
				part = pair.Value
			}
			if !v.writtenOut(part) {
				return false
			}
		}
		return len(x.Elts) > 0
	case *ast.CallExpr:
		called, ok := x.Fun.(*ast.SelectorExpr)
		if !ok || len(x.Args) != 1 {
			return false
		}
		pack, ok := called.X.(*ast.Ident)
		_, literal := x.Args[0].(*ast.BasicLit)
		return ok && literal && pack.Name == "errors" && called.Sel.Name == "New"
	}
	return v.info.Types[e].Value != nil
}

func (v *variables) lookAtDeclared(file *ast.File) {
	for _, declared := range file.Decls {
		group, ok := declared.(*ast.GenDecl)
		if !ok || group.Tok != token.VAR {
			continue
		}
		for _, spec := range group.Specs {
			values := spec.(*ast.ValueSpec).Values
			if len(values) == 0 {
				v.fault(spec, "a variable at package level has no value of its own")
			}
			for _, value := range values {
				if !v.writtenOut(value) {
					v.fault(value, "a value at package level is not written out")
				}
			}
		}
	}
}

// faultsOf tells what is wrong with the variables of the package of some files.
func faultsOf(t *testing.T, sources map[string]any) []string {
	t.Helper()
	v := &variables{files: token.NewFileSet()}
	v.info = types.Info{Types: map[ast.Expr]types.TypeAndValue{}, Uses: map[*ast.Ident]types.Object{}, Selections: map[*ast.SelectorExpr]*types.Selection{}}
	var parsed []*ast.File
	for name, source := range sources {
		file, err := parser.ParseFile(v.files, name, source, 0)
		if err != nil {
			t.Fatal(err)
		}
		parsed = append(parsed, file)
	}
	// What hangs on the empty packages is an error, and does not matter here.
	config := types.Config{Importer: v, Error: func(error) {}}
	config.Check("looked/at", v.files, parsed, &v.info)
	for _, file := range parsed {
		v.lookAtDeclared(file)
		ast.Inspect(file, v.lookAtUse)
	}
	return v.faults
}

func TestVariablesAtPackageLevel(t *testing.T) {
	packages := map[string]map[string]any{}
	for _, file := range programFiles(t) {
		folder := filepath.Dir(file)
		if packages[folder] == nil {
			packages[folder] = map[string]any{}
		}
		packages[folder][file] = nil
	}
	for _, sources := range packages {
		for _, fault := range faultsOf(t, sources) {
			t.Error("LANGUAGE.md, 3a and 3b: " + fault)
		}
	}
}

// What the test above looks for is found, and nothing else.
func TestVariablesAreLookedAt(t *testing.T) {
	for _, source := range []string{
		`var table = [2]int{1, -2}; func f() int { return table[0] }`,
		`import "errors"; var err = errors.New("text")`,
		`type row struct{ n int; s string }; var rows = []row{{1, "a"}, {n: 2}}`,
		`func f() { var n int; n = 1; p := &n; *p = 2 }`,
		`type row struct{ n int }; func (r row) get() int { return r.n }; var a = row{1}; func f() { a.get() }`,
	} {
		if got := faultsOf(t, map[string]any{"source.go": "package source; " + source}); len(got) != 0 {
			t.Errorf("%s: found %q", source, got)
		}
	}
	for _, source := range []string{
		`var n int`,
		`import "sync"; var once sync.Once`,
		`import "sync"; var once = sync.Once{}`,
		`var m = map[int]int{1: 2}`,
		`func g() int { return 1 }; var n = g()`,
		`import "errors"; var err = errors.Join(nil)`,
		`var a = 1; var b = a`,
		`var n = 1; func f() { n = 2 }`,
		`var n = 1; func f() { n++ }`,
		`var n = 1; func f() { (n) += 2 }`,
		`var a = [2]int{1}; func f() { a[0] = 2 }`,
		`var a = [2]int{1}; func f() []int { return a[:] }`,
		`var a = [2]int{1}; func f() *int { return &a[1] }`,
		`var a = [2]int{1}; func f() { for a[0] = range 3 {} }`,
		`type row struct{ n int }; func (r *row) put() {}; var a = row{1}; func f() { a.put() }`,
	} {
		if got := faultsOf(t, map[string]any{"source.go": "package source; " + source}); len(got) != 1 {
			t.Errorf("%s: found %q", source, got)
		}
	}
}
