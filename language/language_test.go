// Package language tests that the program keeps to the language that shared/LANGUAGE.md describes, as far as the text of its files shows it.
package language

import (
	"bytes"
	"go/ast"
	"go/format"
	"go/parser"
	"go/token"
	"io/fs"
	"os"
	"path/filepath"
	"strconv"
	"strings"
	"testing"
)

const (
	root       = ".."
	longest    = 66 // lines of a function, of which there may be about 60
	ownPackage = "viator/"
)

// library contains the packages of the standard library that may be imported.
const library = " bytes cmp container/heap errors iter maps math math/bits slices sort strconv strings sync sync/atomic unicode unicode/utf8 "

// source is a file of the program.
type source struct {
	path string
	text []byte
	set  *token.FileSet
	file *ast.File
}

// sources returns the program's files, without tests.
func sources(t *testing.T) []source {
	t.Helper()
	var list []source
	visit(t, func(path string) {
		if !strings.HasSuffix(path, ".go") || strings.HasSuffix(path, "_test.go") {
			return
		}
		text, err := os.ReadFile(path)
		if err != nil {
			t.Fatal(err)
		}
		set := token.NewFileSet()
		file, err := parser.ParseFile(set, path, text, parser.ParseComments|parser.SkipObjectResolution)
		if err != nil {
			t.Fatal(err)
		}
		list = append(list, source{path, text, set, file})
	})
	return list
}

// visit calls a function with the paths of the files in the program's folders.
func visit(t *testing.T, f func(path string)) {
	t.Helper()
	err := filepath.WalkDir(root, func(path string, entry fs.DirEntry, err error) error {
		switch {
		case err != nil:
			return err
		case entry.IsDir() && path != root && isForeign(entry.Name()):
			return filepath.SkipDir
		case !entry.IsDir() && filepath.Dir(path) != root:
			f(path)
		}
		return nil
	})
	if err != nil {
		t.Fatal(err)
	}
}

// isForeign tells whether a folder is none of the program: those of tools and of the shared tests, and names that the program does not use.
func isForeign(folder string) bool {
	return strings.HasPrefix(folder, ".") || strings.HasPrefix(folder, "viator") || folder == "sharedtests" || folder == "form" || folder == "try"
}

func TestFiles(t *testing.T) {
	visit(t, func(path string) {
		if !strings.HasSuffix(path, ".go") {
			t.Errorf("%s is no Go file", path)
		}
	})
}

func TestImports(t *testing.T) {
	for _, s := range sources(t) {
		for _, spec := range s.file.Imports {
			path, _ := strconv.Unquote(spec.Path.Value)
			if !strings.HasPrefix(path, ownPackage) && !strings.Contains(library, " "+path+" ") {
				t.Errorf("%s imports %s", s.path, path)
			}
		}
	}
}

func TestLayout(t *testing.T) {
	for _, s := range sources(t) {
		formatted, err := format.Source(s.text)
		if err != nil || !bytes.Equal(formatted, s.text) {
			t.Errorf("%s does not have gofmt's layout", s.path)
		}
		for _, group := range s.file.Comments {
			for _, c := range group.List {
				if strings.HasPrefix(c.Text, "//go:") || strings.HasPrefix(c.Text, "// +build") {
					t.Errorf("%s: %s", s.set.Position(c.Pos()), c.Text)
				}
			}
		}
	}
}

func TestFunctions(t *testing.T) {
	for _, s := range sources(t) {
		ast.Inspect(s.file, func(n ast.Node) bool {
			switch x := n.(type) {
			case *ast.FuncDecl:
				lines := s.set.Position(x.End()).Line - s.set.Position(x.Pos()).Line + 1
				if lines > longest {
					t.Errorf("%s: %s has %d lines", s.set.Position(x.Pos()), x.Name.Name, lines)
				}
			case *ast.CallExpr:
				if f, ok := x.Fun.(*ast.Ident); ok && (f.Name == "print" || f.Name == "println") {
					t.Errorf("%s: %s", s.set.Position(x.Pos()), f.Name)
				}
			case *ast.SelectorExpr:
				if p, ok := x.X.(*ast.Ident); ok && p.Name == "iter" && strings.HasPrefix(x.Sel.Name, "Pull") {
					t.Errorf("%s: iter.%s", s.set.Position(x.Pos()), x.Sel.Name)
				}
			}
			return true
		})
	}
}

func TestPackageLevel(t *testing.T) {
	for _, s := range sources(t) {
		for _, d := range s.file.Decls {
			group, ok := d.(*ast.GenDecl)
			if !ok || group.Tok != token.VAR {
				continue
			}
			for _, spec := range group.Specs {
				v := spec.(*ast.ValueSpec)
				if len(v.Values) != len(v.Names) {
					t.Errorf("%s: a variable without an initial value", s.set.Position(v.Pos()))
				}
				for _, value := range v.Values {
					if !isTable(value, true) {
						t.Errorf("%s: this value is not permitted at package level", s.set.Position(value.Pos()))
					}
				}
			}
		}
	}
}

// isTable tells whether an initial value is written out, or an error of errors.New. A string is permitted within another value only.
func isTable(value ast.Expr, outermost bool) bool {
	switch x := value.(type) {
	case *ast.BasicLit:
		return x.Kind != token.FLOAT && x.Kind != token.IMAG && (x.Kind != token.STRING || !outermost)
	case *ast.Ident, *ast.SelectorExpr:
		return true
	case *ast.UnaryExpr:
		return x.Op != token.AND && isTable(x.X, outermost)
	case *ast.BinaryExpr:
		return isTable(x.X, outermost) && isTable(x.Y, outermost)
	case *ast.KeyValueExpr:
		return isTable(x.Value, false)
	case *ast.CompositeLit:
		if _, ok := x.Type.(*ast.MapType); ok {
			return false
		}
		for _, e := range x.Elts {
			if !isTable(e, false) {
				return false
			}
		}
		return true
	case *ast.CallExpr:
		f, ok := x.Fun.(*ast.SelectorExpr)
		if !ok || !outermost || f.Sel.Name != "New" || len(x.Args) != 1 {
			return false
		}
		p, ok := f.X.(*ast.Ident)
		return ok && p.Name == "errors"
	}
	return false
}
