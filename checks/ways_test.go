package checks

import (
	"errors"
	"go/ast"
	"go/parser"
	"go/token"
	"go/types"
	"path"
	"path/filepath"
	"slices"
	"strings"
	"testing"
)

// ways says which features of the language the packages that have been built have to use.
const ways = `
natural generic-function method-value
integer array struct-compared
rational map function-field
interval array variadic
root array defer
angle range-function method-value
matrix generic-function label
polynomial range-function method-expression
sturm range-function closure
piecewise range-function map
vector array embedding
mesh map struct-compared
clip range-function array
mass variadic struct-compared
shape range-function map function-field
attitude array closure
float array closure
particulars variadic closure
bonjean map range-function
draft closure array
trim struct-compared closure
tank map closure
liquid array closure
ledger map closure
condition map embedding
lever method-value struct-compared
`

// features finds uses of the features in a package whose types are known.
var features = map[string]func(ast.Node, *types.Info) bool{
	"generic-function": func(n ast.Node, _ *types.Info) bool {
		f, ok := n.(*ast.FuncDecl)
		return ok && f.Type.TypeParams != nil
	},
	"method-value": func(n ast.Node, info *types.Info) bool {
		call, ok := n.(*ast.CallExpr)
		if !ok {
			return false
		}
		for _, argument := range call.Args {
			if s, ok := argument.(*ast.SelectorExpr); ok && info.Selections[s] != nil && info.Selections[s].Kind() == types.MethodVal {
				return true
			}
		}
		return false
	},
	"method-expression": func(n ast.Node, info *types.Info) bool {
		s, ok := n.(*ast.SelectorExpr)
		return ok && info.Selections[s] != nil && info.Selections[s].Kind() == types.MethodExpr
	},
	"label": func(n ast.Node, _ *types.Info) bool {
		branch, ok := n.(*ast.BranchStmt)
		return ok && branch.Label != nil
	},
	"array": func(n ast.Node, info *types.Info) bool {
		literal, ok := n.(*ast.CompositeLit)
		if !ok {
			return false
		}
		_, ok = underlying(info, literal).(*types.Array)
		return ok
	},
	"struct-compared": func(n ast.Node, info *types.Info) bool {
		b, ok := n.(*ast.BinaryExpr)
		if !ok || b.Op != token.EQL && b.Op != token.NEQ {
			return false
		}
		_, ok = underlying(info, b.X).(*types.Struct)
		return ok
	},
	"map": func(n ast.Node, _ *types.Info) bool {
		_, ok := n.(*ast.MapType)
		return ok
	},
	"function-field": func(n ast.Node, _ *types.Info) bool {
		fields, ok := n.(*ast.StructType)
		return ok && slices.ContainsFunc(fields.Fields.List, func(f *ast.Field) bool {
			_, isFunction := f.Type.(*ast.FuncType)
			return isFunction
		})
	},
	"embedding": func(n ast.Node, _ *types.Info) bool {
		fields, ok := n.(*ast.StructType)
		return ok && slices.ContainsFunc(fields.Fields.List, func(f *ast.Field) bool { return len(f.Names) == 0 })
	},
	"variadic": func(n ast.Node, _ *types.Info) bool {
		f, ok := n.(*ast.FuncDecl)
		return ok && slices.ContainsFunc(f.Type.Params.List, func(p *ast.Field) bool {
			_, isVariadic := p.Type.(*ast.Ellipsis)
			return isVariadic
		})
	},
	"defer": func(n ast.Node, _ *types.Info) bool {
		_, ok := n.(*ast.DeferStmt)
		return ok
	},
	"closure": func(n ast.Node, info *types.Info) bool {
		literal, ok := n.(*ast.FuncLit)
		return ok && !isRangedOver(literal, info) && usesOutside(literal, info)
	},
	"range-function": func(n ast.Node, info *types.Info) bool {
		loop, ok := n.(*ast.RangeStmt)
		if !ok {
			return false
		}
		_, ok = underlying(info, loop.X).(*types.Signature)
		return ok
	},
}

// isRangedOver reports whether a function literal takes a function alone, as those do over which loops range.
func isRangedOver(literal *ast.FuncLit, info *types.Info) bool {
	parameters := literal.Type.Params.List
	if len(parameters) != 1 {
		return false
	}
	_, ok := underlying(info, parameters[0].Type).(*types.Signature)
	return ok
}

// usesOutside reports whether a function literal uses a variable of the function around it.
func usesOutside(literal *ast.FuncLit, info *types.Info) bool {
	found := false
	ast.Inspect(literal.Body, func(n ast.Node) bool {
		if id, ok := n.(*ast.Ident); ok {
			v, isVariable := info.Uses[id].(*types.Var)
			found = found || isVariable && !v.IsField() && v.Parent() != v.Pkg().Scope() && !isWithin(v.Pos(), literal)
		}
		return !found
	})
	return found
}

// few imports the types of package api, and those of functions over which loops range: together with those of a package itself they are enough here.
type few struct{}

func (few) Import(name string) (*types.Package, error) {
	texts := map[string]any{} // nil for those that are read from their files
	switch name {
	case "iter":
		texts["iter.go"] = "package iter; type Seq[V any] func(func(V) bool); type Seq2[K, V any] func(func(K, V) bool)"
	case "garboard/api":
		paths, _ := filepath.Glob(filepath.Join(root, "api", "*.go"))
		for _, path := range paths {
			texts[path] = nil
		}
	default:
		return nil, errors.New("not imported")
	}
	set := token.NewFileSet()
	var files []*ast.File
	for path, text := range texts {
		file, e := parser.ParseFile(set, path, text, 0)
		if e != nil {
			return nil, e
		}
		files = append(files, file)
	}
	return new(types.Config).Check(name, set, files, nil)
}

// DOC, section Ways
func TestWays(t *testing.T) {
	all := sources(t)
	for line := range strings.Lines(strings.TrimSpace(ways)) {
		words := strings.Fields(line)
		for _, feature := range words[1:] {
			if !uses(all, words[0], features[feature]) {
				t.Errorf("package %s does not use %s", words[0], feature)
			}
		}
	}
}

// uses reports whether a package has a node with a feature.
func uses(all []source, name string, isUse func(ast.Node, *types.Info) bool) bool {
	files, info := typed(all, name)
	found := false
	for _, file := range files {
		ast.Inspect(file, func(n ast.Node) bool {
			found = found || n != nil && isUse(n, info)
			return !found
		})
	}
	return found
}

// typed returns the files of a package, and the types that are known without what it imports.
func typed(all []source, folder string) ([]*ast.File, *types.Info) {
	var files []*ast.File
	for _, s := range all {
		if path.Dir(s.path) == folder {
			files = append(files, s.file)
		}
	}
	return files, infoOf(folder, all[0].set, files)
}

func infoOf(name string, set *token.FileSet, files []*ast.File) *types.Info {
	info := &types.Info{Types: map[ast.Expr]types.TypeAndValue{}, Selections: map[*ast.SelectorExpr]*types.Selection{}, Uses: map[*ast.Ident]types.Object{}, Defs: map[*ast.Ident]types.Object{}}
	lenient := types.Config{Importer: few{}, Error: func(error) {}}
	lenient.Check(name, set, files, info)
	return info
}

// folders returns the packages of some files.
func folders(all []source) map[string]bool {
	out := map[string]bool{}
	for _, s := range all {
		out[path.Dir(s.path)] = true
	}
	return out
}

// underlying returns nil for expressions whose types are not known.
func underlying(info *types.Info, e ast.Expr) types.Type {
	if known := info.TypeOf(e); known != nil {
		return known.Underlying()
	}
	return nil
}
