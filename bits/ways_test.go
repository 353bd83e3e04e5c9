package bits_test

import (
	"go/ast"
	"go/parser"
	"go/token"
	"testing"
)

// DOC.md, Ways, layer 1: an octet's bits are gone through by a range over an integer, and shifted; places and fields come in through variadic functions.
func TestWays(t *testing.T) {
	file, err := parser.ParseFile(token.NewFileSet(), "bits.go", nil, 0)
	if err != nil {
		t.Fatal(err)
	}
	functions := map[string]*ast.FuncDecl{}
	for _, d := range file.Decls {
		if f, ok := d.(*ast.FuncDecl); ok {
			functions[f.Name.Name] = f
		}
	}
	for _, name := range []string{"Of", "Octets"} {
		if f := functions[name]; f == nil || !shiftsInRangeOverInteger(file, f) {
			t.Errorf("%s goes through no octet's bits by a range over an integer, shifting", name)
		}
	}
	for _, name := range []string{"Flip", "Pack"} {
		if f := functions[name]; f == nil || !isVariadic(f) {
			t.Errorf("%s isn't variadic", name)
		}
	}
}

func isVariadic(f *ast.FuncDecl) bool {
	params := f.Type.Params.List
	if len(params) == 0 {
		return false
	}
	_, ok := params[len(params)-1].Type.(*ast.Ellipsis)
	return ok
}

func shiftsInRangeOverInteger(file *ast.File, f *ast.FuncDecl) bool {
	found := false
	ast.Inspect(f.Body, func(n ast.Node) bool {
		if r, ok := n.(*ast.RangeStmt); ok && isInteger(file, r.X) && shifts(r.Body) {
			found = true
		}
		return true
	})
	return found
}

// isInteger: is it an integer as it is written, or a constant of this file that is one?
func isInteger(file *ast.File, e ast.Expr) bool {
	if name, ok := e.(*ast.Ident); ok {
		e = constant(file, name.Name)
	}
	literal, ok := e.(*ast.BasicLit)
	return ok && literal.Kind == token.INT
}

func constant(file *ast.File, name string) ast.Expr {
	for _, d := range file.Decls {
		group, ok := d.(*ast.GenDecl)
		if !ok || group.Tok != token.CONST {
			continue
		}
		for _, s := range group.Specs {
			if v := s.(*ast.ValueSpec); len(v.Values) == 1 && v.Names[0].Name == name {
				return v.Values[0]
			}
		}
	}
	return nil
}

func shifts(body ast.Node) bool {
	found := false
	ast.Inspect(body, func(n ast.Node) bool {
		if x, ok := n.(*ast.BinaryExpr); ok && (x.Op == token.SHL || x.Op == token.SHR) {
			found = true
		}
		return true
	})
	return found
}
