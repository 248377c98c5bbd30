package checks

import (
	"bytes"
	"go/ast"
	"go/format"
	"go/token"
	"path"
	"slices"
	"strconv"
	"strings"
	"testing"
)

// library are the packages of the standard library that the program may use.
var library = []string{"bytes", "cmp", "container/heap", "errors", "iter", "maps", "math", "math/bits", "slices", "sort", "strconv", "strings", "sync", "sync/atomic", "unicode", "unicode/utf8"}

// forbidden are names of permitted packages that the program may not use.
var forbidden = []string{"iter.Pull", "iter.Pull2", "sync.Pool", "sync.Map", "sync.Cond", "sync.NewCond", "sync.OnceFunc", "sync.OnceValue", "sync.OnceValues"}

// mostLines is about how long a function may be.
const mostLines = 60

// mostInTable is about how many values a table at package level may have.
const mostInTable = 250

// LANGUAGE 1
func TestImports(t *testing.T) {
	for _, s := range sources(t) {
		for _, spec := range s.file.Imports {
			name, _ := strconv.Unquote(spec.Path.Value)
			if !slices.Contains(library, name) && !strings.HasPrefix(name, "garboard/") {
				t.Errorf("%s imports %s", s.at(spec), name)
			}
		}
		ast.Inspect(s.file, func(n ast.Node) bool {
			if selector, ok := n.(*ast.SelectorExpr); ok {
				if x, ok := selector.X.(*ast.Ident); ok && slices.Contains(forbidden, x.Name+"."+selector.Sel.Name) {
					t.Errorf("%s uses %s.%s", s.at(n), x.Name, selector.Sel.Name)
				}
			}
			return true
		})
	}
}

// LANGUAGE 2: there is nothing but Go files, and what the project itself needs.
func TestFiles(t *testing.T) {
	files(t, func(name string) {
		if !strings.HasSuffix(name, ".go") && name != "go.mod" && name != "README.md" {
			t.Errorf("there is a file %s", name)
		}
		folder := path.Dir(name)
		if base := path.Base(folder); base == "form" || base == "try" || strings.HasPrefix(base, "garboard") {
			t.Errorf("there is a folder %s", folder)
		}
	})
}

// LANGUAGE 2: there are no directives, no build tags, and no printing.
func TestDirectivesAndPrinting(t *testing.T) {
	for _, s := range sources(t) {
		for _, group := range s.file.Comments {
			for _, c := range group.List {
				if strings.HasPrefix(c.Text, "//go:") || strings.HasPrefix(c.Text, "// +build") || strings.HasPrefix(c.Text, "//export") {
					t.Errorf("%s is a directive", s.at(c))
				}
			}
		}
		ast.Inspect(s.file, func(n ast.Node) bool {
			if call, ok := n.(*ast.CallExpr); ok && (isNamed(call.Fun, "print") || isNamed(call.Fun, "println")) {
				t.Errorf("%s prints", s.at(n))
			}
			return true
		})
	}
}

// DOC, section Rules: there are no floating-point numbers anywhere.
func TestFloats(t *testing.T) {
	for _, s := range sources(t) {
		ast.Inspect(s.file, func(n ast.Node) bool {
			literal, ok := n.(*ast.BasicLit)
			if ok && (literal.Kind == token.FLOAT || literal.Kind == token.IMAG) {
				t.Errorf("%s is a floating-point number", s.at(n))
			}
			for _, name := range []string{"float32", "float64", "complex64", "complex128"} {
				if e, ok := n.(ast.Expr); ok && isNamed(e, name) {
					t.Errorf("%s is of a floating-point type", s.at(n))
				}
			}
			return true
		})
	}
}

// LANGUAGE 3a, 3b: variables at package level are short tables, or errors created by errors.New.
func TestPackageLevel(t *testing.T) {
	for _, s := range sources(t) {
		for _, d := range s.file.Decls {
			declaration, ok := d.(*ast.GenDecl)
			if !ok || declaration.Tok != token.VAR {
				continue
			}
			for _, spec := range declaration.Specs {
				checkVariable(t, s, spec.(*ast.ValueSpec))
			}
		}
	}
}

func checkVariable(t *testing.T, s source, spec *ast.ValueSpec) {
	t.Helper()
	if len(spec.Values) != len(spec.Names) {
		t.Errorf("%s has no value", s.at(spec))
	}
	count := 0
	for _, value := range spec.Values {
		if literal, ok := value.(*ast.BasicLit); ok && literal.Kind == token.STRING {
			t.Errorf("%s is a string, but no constant", s.at(spec))
		}
		ast.Inspect(value, func(n ast.Node) bool {
			switch n := n.(type) {
			case *ast.CallExpr:
				if selector, ok := n.Fun.(*ast.SelectorExpr); !ok || !isNamed(selector.X, "errors") || selector.Sel.Name != "New" {
					t.Errorf("%s is computed by a call", s.at(n))
				}
			case *ast.FuncLit, *ast.MapType, *ast.StarExpr:
				t.Errorf("%s does not belong at package level", s.at(n))
			case *ast.UnaryExpr:
				if n.Op == token.AND {
					t.Errorf("%s is a pointer", s.at(n))
				}
			case *ast.BasicLit:
				count++
			}
			return true
		})
	}
	if count > mostInTable {
		t.Errorf("%s has %d values", s.at(spec), count)
	}
}

// LANGUAGE 9
func TestLayout(t *testing.T) {
	for _, s := range sources(t) {
		formatted, e := format.Source(s.text)
		if e != nil || !bytes.Equal(formatted, s.text) {
			t.Errorf("%s does not have gofmt's layout", s.path)
		}
		for _, d := range s.file.Decls {
			f, ok := d.(*ast.FuncDecl)
			if !ok {
				continue
			}
			if lines := s.set.Position(f.End()).Line - s.set.Position(f.Pos()).Line + 1; lines > mostLines {
				t.Errorf("%s has %d lines", s.at(f), lines)
			}
		}
	}
}

func isNamed(e ast.Expr, name string) bool {
	id, ok := e.(*ast.Ident)
	return ok && id.Name == name
}
