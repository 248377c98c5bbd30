package checks

import (
	"go/ast"
	"go/parser"
	"go/token"
	"go/types"
	"strings"
	"testing"
)

// LANGUAGE 5: no statement reads a variable, a field or an element beside a call that may change it, because Go leaves open which of both comes first.
func TestOrderOfEvaluation(t *testing.T) {
	all := sources(t)
	for folder := range folders(all) {
		files, info := typed(all, folder)
		for _, file := range files {
			for _, n := range openReads(file, info) {
				t.Errorf("%s may be read before or after a call that may change it", all[0].set.Position(n.Pos()))
			}
		}
	}
}

// The check itself: statements whose result is open, and such whose result is not.
func TestOpenReadsAreFound(t *testing.T) {
	const declarations = `
type counter struct{ n int; list []int }
func (c *counter) next(int) int { c.n++; return c.n }
func (c counter) value() int { return c.n }
func take(f func(int) int) int { return f(0) }
func set(p *int) int { *p = 1; return 0 }
func fill(x []int) int { x[0] = 1; return 0 }
func two(a, b int) int { return a }
type items []int
func (l items) first() int { return l[0] }
func (l items) next() int { l[0]++; return l[0] }
`
	for statement, isOpen := range map[string]bool{
		"var c counter; return append([]int{take(c.next)}, c.n)[0]":      true,
		"var c counter; return c.n + c.next(0)":                          true,
		"var c counter; return two(c.next(0), c.value() + c.n)":          true,
		"c := &counter{}; return c.n + c.next(0)":                        true,
		"c := &counter{}; d := c; _, d = c.next(0), c; return d.n":       false,
		"var n int; return set(&n) + n":                                  true,
		"var n int; n += set(&n); return n":                              true,
		"x := []int{0}; return fill(x) + x[0]":                           true,
		"x := []int{0}; return two(fill(x), x[0])":                       true,
		"c := counter{list: []int{0}}; return fill(c.list) + c.list[0]":  true,
		"n := 0; f := func(int) int { n++; return n }; return f(0) + n":  true,
		"n := 0; f := func(int) int { n++; return n }; return take(f)+n": true,
		"var n int; x := []int{0}; x[n] = set(&n); return x[0]":          true,
		"n := 0; return take(func(int) int { n++; return n }) + n":       true,
		"var c counter; sum := take(c.next); return sum + c.n":           false,
		"var c counter; return c.next(0) + c.next(c.n)":                  true,
		"l := items{0}; return l.next() + l[0]":                          true,
		"l := items{0}; return two(l.next(), l[0]) + l.first()":          true,
		"l := items{0}; return l.next() + l.first()":                     false,
		"l := items{0}; return two(l.first(), l.next())":                 false,
		"var c counter; return c.next(c.n)":                              false,
		"var c counter; return two(c.value(), c.n) + c.value()":          false,
		"var n int; return two(n, 0) + set(&n)":                          false,
		"var n int; if set(&n) == 0 && n == 1 { return 1 }; return 0":    false,
		"x := []int{0}; return fill(x) + len(x)":                         false,
		"x, y := []int{0}, []int{1}; return fill(x) + y[0]":              false,
		"var n int; n = set(&n); return n":                               false,
		"n := 0; f := func(int) int { n++; return n }; f(0); return n":   false,
		"n := 0; f := func(int) int { return n }; return f(0) + n":       false,
	} {
		set := token.NewFileSet()
		file, e := parser.ParseFile(set, "", "package p\n"+declarations+"func f() int { "+statement+" }", 0)
		if e != nil {
			t.Fatal(statement, e)
		}
		if found := openReads(file, infoOf("p", set, []*ast.File{file})); (len(found) > 0) != isOpen {
			t.Errorf("%s: %d open reads", statement, len(found))
		}
	}
}

// unit are expressions of one statement, whose operands are evaluated together.
type unit struct {
	info     *types.Info
	captured map[string]bool // variables that function literals of the function change
	calls    []*ast.CallExpr
	reads    []ast.Expr
	logical  []*ast.BinaryExpr
}

// openReads returns the reads of a file that a call beside them may change.
func openReads(file *ast.File, info *types.Info) []ast.Expr {
	var out []ast.Expr
	for _, d := range file.Decls {
		f, ok := d.(*ast.FuncDecl)
		if !ok || f.Body == nil {
			continue
		}
		captured := capturedBy(f.Body, info)
		ast.Inspect(f.Body, func(n ast.Node) bool {
			for _, expressions := range together(n) {
				u := unit{info: info, captured: captured}
				for _, e := range expressions {
					u.collect(e)
				}
				out = append(out, u.open()...)
			}
			return true
		})
	}
	return out
}

// capturedBy returns the variables that function literals change, but that are declared outside of them.
func capturedBy(body ast.Node, info *types.Info) map[string]bool {
	out := map[string]bool{}
	ast.Inspect(body, func(n ast.Node) bool {
		literal, ok := n.(*ast.FuncLit)
		if !ok {
			return true
		}
		ast.Inspect(literal.Body, func(n ast.Node) bool {
			for _, target := range targets(n) {
				id, ok := base(target).(*ast.Ident)
				if ok && info.Uses[id] != nil && !isWithin(info.Uses[id].Pos(), literal) {
					out[id.Name] = true
				}
			}
			return true
		})
		return true
	})
	return out
}

// targets returns what a statement assigns to.
func targets(n ast.Node) []ast.Expr {
	switch n := n.(type) {
	case *ast.AssignStmt:
		return n.Lhs
	case *ast.IncDecStmt:
		return []ast.Expr{n.X}
	case *ast.RangeStmt:
		return []ast.Expr{n.Key, n.Value}
	}
	return nil
}

// base returns the variable whose field or element an expression is.
func base(e ast.Expr) ast.Expr {
	switch e := e.(type) {
	case *ast.SelectorExpr:
		return base(e.X)
	case *ast.IndexExpr:
		return base(e.X)
	case *ast.StarExpr:
		return base(e.X)
	case *ast.ParenExpr:
		return base(e.X)
	}
	return e
}

// together returns the expressions of a node that are evaluated together, in lists.
func together(n ast.Node) [][]ast.Expr {
	switch n := n.(type) {
	case *ast.ExprStmt:
		return [][]ast.Expr{{n.X}}
	case *ast.AssignStmt:
		return [][]ast.Expr{append(evaluatedTargets(n), n.Rhs...)}
	case *ast.ReturnStmt:
		return [][]ast.Expr{n.Results}
	case *ast.SendStmt:
		return [][]ast.Expr{{n.Chan, n.Value}}
	case *ast.GoStmt:
		return [][]ast.Expr{{n.Call}}
	case *ast.DeferStmt:
		return [][]ast.Expr{{n.Call}}
	case *ast.IfStmt:
		return [][]ast.Expr{{n.Cond}}
	case *ast.ForStmt:
		return [][]ast.Expr{{n.Cond}}
	case *ast.SwitchStmt:
		return [][]ast.Expr{{n.Tag}}
	case *ast.RangeStmt:
		return [][]ast.Expr{{n.X}}
	case *ast.ValueSpec:
		return [][]ast.Expr{n.Values}
	case *ast.CaseClause:
		var out [][]ast.Expr
		for _, e := range n.List {
			out = append(out, []ast.Expr{e})
		}
		return out
	}
	return nil
}

// evaluatedTargets returns what of the left side of an assignment is evaluated: indices, and, if it is an operation, the operand.
func evaluatedTargets(n *ast.AssignStmt) []ast.Expr {
	var out []ast.Expr
	for _, target := range n.Lhs {
		index, isElement := target.(*ast.IndexExpr)
		switch {
		case n.Tok != token.ASSIGN && n.Tok != token.DEFINE:
			out = append(out, target)
		case isElement:
			out = append(out, index.Index)
		}
	}
	return out
}

// collect finds the calls and the reads of an expression. What is in a function literal comes later.
func (u *unit) collect(e ast.Expr) {
	if e == nil {
		return
	}
	ast.Inspect(e, func(n ast.Node) bool {
		switch n := n.(type) {
		case *ast.FuncLit, *ast.KeyValueExpr:
			if pair, ok := n.(*ast.KeyValueExpr); ok {
				u.collect(pair.Value)
			}
			return false
		case *ast.BinaryExpr:
			if n.Op == token.LAND || n.Op == token.LOR {
				u.logical = append(u.logical, n)
			}
		case *ast.UnaryExpr:
			return n.Op != token.AND
		case *ast.CallExpr:
			if u.isCall(n) {
				u.calls = append(u.calls, n)
			}
		case *ast.SelectorExpr:
			if _, isName := n.X.(*ast.Ident); isName && u.isChanging(n) {
				return false
			}
			if !u.isOfReference(n) {
				u.reads = append(u.reads, n)
			}
			u.collect(n.X)
			return false
		case *ast.Ident, *ast.IndexExpr, *ast.StarExpr:
			u.reads = append(u.reads, n.(ast.Expr))
		}
		return true
	})
}

// isCall reports whether it is neither a conversion nor a call of a function of the language that changes nothing.
func (u *unit) isCall(call *ast.CallExpr) bool {
	known := u.info.Types[call.Fun]
	return !known.IsType() && (!known.IsBuiltin() || isNamed(call.Fun, "copy"))
}

// isChanging reports whether it is a method, by a call of which its variable may be changed.
func (u *unit) isChanging(method *ast.SelectorExpr) bool {
	selection := u.info.Selections[method]
	if selection == nil || selection.Kind() != types.MethodVal {
		return false
	}
	_, isPointer := selection.Obj().(*types.Func).Signature().Recv().Type().(*types.Pointer)
	return isPointer
}

// isOfReference reports whether it is a method of a slice or a map, which takes this as it is and reads elements only when it runs.
func (u *unit) isOfReference(method *ast.SelectorExpr) bool {
	selection := u.info.Selections[method]
	if selection == nil || selection.Kind() != types.MethodVal {
		return false
	}
	switch selection.Recv().Underlying().(type) {
	case *types.Slice, *types.Map:
		return true
	}
	return false
}

// open returns the reads that a call of the unit may change, and that are neither among the operands of this call, nor in a call before it.
func (u *unit) open() []ast.Expr {
	var out []ast.Expr
	for _, call := range u.calls {
		whole, shared := u.changes(call)
		for _, read := range u.reads {
			path := types.ExprString(read)
			if (isPart(path, whole, "", ".", "[") || isPart(path, shared, ".", "[")) && !u.isOrdered(read, call) {
				out = append(out, read)
			}
		}
	}
	return out
}

// isPart reports whether a path goes on behind one of some other paths in one of some ways.
func isPart(path string, of map[string]bool, ways ...string) bool {
	for p := range of {
		rest, ok := strings.CutPrefix(strings.TrimPrefix(path, "*"), p)
		for _, w := range ways {
			if ok && (rest == w || w != "" && strings.HasPrefix(rest, w) || path[0] == '*' && rest == "") {
				return true
			}
		}
	}
	return false
}

// changes returns the variables that a call may change, and those to whose elements it may do so.
func (u *unit) changes(call *ast.CallExpr) (whole, shared map[string]bool) {
	whole, shared = map[string]bool{}, map[string]bool{}
	for _, operand := range append([]ast.Expr{call.Fun}, call.Args...) {
		ast.Inspect(operand, func(n ast.Node) bool {
			switch n := n.(type) {
			case *ast.CallExpr:
				return !u.isCall(n)
			case *ast.FuncLit:
				for name := range u.captured {
					whole[name] = true
				}
				return false
			case *ast.UnaryExpr:
				if n.Op == token.AND {
					whole[types.ExprString(n.X)] = true
				}
			case *ast.SelectorExpr:
				if _, isPointer := underlying(u.info, n.X).(*types.Pointer); u.isChanging(n) && !isPointer {
					whole[types.ExprString(n.X)] = true
				}
				u.refer(n, whole, shared)
			case *ast.Ident:
				u.refer(n, whole, shared)
			}
			return true
		})
	}
	return whole, shared
}

// refer notes what may be changed through a variable or a field.
func (u *unit) refer(e ast.Expr, whole, shared map[string]bool) {
	switch underlying(u.info, e).(type) {
	case *types.Pointer, *types.Slice, *types.Map:
		shared[types.ExprString(e)] = true
	case *types.Signature:
		if id, ok := e.(*ast.Ident); ok && isVariable(u.info.Uses[id]) {
			for name := range u.captured {
				whole[name] = true
			}
		}
	}
}

func isVariable(o types.Object) bool {
	_, ok := o.(*types.Var)
	return ok
}

// isOrdered reports whether the language says if a read comes before or after a call.
func (u *unit) isOrdered(read ast.Expr, call *ast.CallExpr) bool {
	if isWithin(read.Pos(), call) {
		return true
	}
	for _, other := range u.calls {
		if isWithin(read.Pos(), other) && other.End() <= call.Pos() {
			return true
		}
	}
	for _, l := range u.logical {
		if isWithin(read.Pos(), l.X) && isWithin(call.Pos(), l.Y) || isWithin(call.Pos(), l.X) && isWithin(read.Pos(), l.Y) {
			return true
		}
	}
	return false
}

func isWithin(at token.Pos, n ast.Node) bool { return n.Pos() <= at && at < n.End() }
