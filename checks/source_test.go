// Package checks holds the source of the program against the rules that apply to all of it: those of its language, the layers, the ways that packages have to use, and the constants of package api.
package checks

import (
	"go/ast"
	"go/parser"
	"go/token"
	"io/fs"
	"os"
	"path/filepath"
	"strings"
	"testing"
)

// root is the folder of the module.
const root = ".."

// source is a Go file that belongs to the program.
type source struct {
	path string // from the root on
	text []byte
	file *ast.File
	set  *token.FileSet
}

func (s source) at(n ast.Node) string { return s.set.Position(n.Pos()).String() }

// belongs reports whether a folder is part of the program: hidden ones and the tests that are laid beside it are not.
func belongs(folder string) bool {
	return folder == root || !strings.HasPrefix(filepath.Base(folder), ".") && filepath.Base(folder) != "sharedtests"
}

// files calls a function for each file of the project.
func files(t *testing.T, see func(path string)) {
	t.Helper()
	e := filepath.WalkDir(root, func(path string, entry fs.DirEntry, e error) error {
		if e != nil {
			return e
		}
		if entry.IsDir() {
			if !belongs(path) {
				return filepath.SkipDir
			}
			return nil
		}
		see(filepath.ToSlash(strings.TrimPrefix(path, root+string(filepath.Separator))))
		return nil
	})
	if e != nil {
		t.Fatal(e)
	}
}

// sources returns all Go files but the tests, with positions of one set.
func sources(t *testing.T) []source {
	t.Helper()
	var out []source
	set := token.NewFileSet()
	files(t, func(path string) {
		if strings.HasSuffix(path, ".go") && !strings.HasSuffix(path, "_test.go") {
			out = append(out, parse(t, set, path))
		}
	})
	if len(out) < 60 {
		t.Fatalf("only %d files were found", len(out))
	}
	return out
}

func parse(t *testing.T, set *token.FileSet, path string) source {
	t.Helper()
	text, e := os.ReadFile(filepath.Join(root, path))
	if e != nil {
		t.Fatal(e)
	}
	file, e := parser.ParseFile(set, path, text, parser.ParseComments)
	if e != nil {
		t.Fatal(e)
	}
	return source{path, text, file, set}
}
