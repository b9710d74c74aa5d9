// Package language tests that the program keeps those rules of shared/LANGUAGE.md that can be told from its text: what it
// imports, its layout, its directives, the length of its functions, and what stands at package level.
package language

import (
	"bytes"
	"go/ast"
	"go/format"
	"go/parser"
	"go/token"
	"io/fs"
	"os"
	"path/filepath"
	"slices"
	"strconv"
	"strings"
	"testing"
)

// allowed are the packages of the library that the program may import.
var allowed = []string{
	"bytes", "cmp", "container/heap", "errors", "iter", "maps", "math", "math/bits", "slices", "sort", "strconv", "strings",
	"sync", "sync/atomic", "unicode", "unicode/utf8",
}

// longest is how many lines a function may have.
const longest = 60

// eachFile calls a function with each file of the program, tests left out.
func eachFile(t *testing.T, f func(path string)) {
	t.Helper()
	count := 0
	err := filepath.WalkDir("..", func(path string, d fs.DirEntry, err error) error {
		switch {
		case err != nil:
			return err
		case d.IsDir() && (d.Name() == "sharedtests" || strings.HasPrefix(d.Name(), ".") && path != ".."):
			return filepath.SkipDir
		case !d.IsDir() && !strings.HasSuffix(path, "_test.go") && filepath.Dir(path) != "..":
			count++
			f(path)
		}
		return nil
	})
	if err != nil || count == 0 {
		t.Fatal(count, err)
	}
}

func TestLanguage(t *testing.T) {
	eachFile(t, func(path string) {
		if !strings.HasSuffix(path, ".go") {
			t.Error(path, "is no Go file")
			return
		}
		text, err := os.ReadFile(path)
		if err != nil {
			t.Fatal(err)
		}
		if formatted, err := format.Source(text); err != nil || !bytes.Equal(text, formatted) {
			t.Error(path, "has not gofmt's layout", err)
		}
		files := token.NewFileSet()
		file, err := parser.ParseFile(files, path, text, parser.ParseComments)
		if err != nil {
			t.Fatal(err)
		}
		checkImports(t, path, file)
		checkComments(t, path, file)
		for _, d := range file.Decls {
			checkDeclaration(t, files, d)
		}
	})
}

func checkImports(t *testing.T, path string, file *ast.File) {
	t.Helper()
	for _, x := range file.Imports {
		name, err := strconv.Unquote(x.Path.Value)
		if err != nil || !slices.Contains(allowed, name) && !strings.HasPrefix(name, "guideway/") {
			t.Error(path, "imports", x.Path.Value)
		}
	}
}

func checkComments(t *testing.T, path string, file *ast.File) {
	t.Helper()
	for _, group := range file.Comments {
		for _, c := range group.List {
			if strings.HasPrefix(c.Text, "//go:") || strings.HasPrefix(c.Text, "// +build") {
				t.Error(path, "has", c.Text)
			}
		}
	}
}

func checkDeclaration(t *testing.T, files *token.FileSet, d ast.Decl) {
	t.Helper()
	switch d := d.(type) {
	case *ast.FuncDecl:
		if lines := files.Position(d.End()).Line - files.Position(d.Pos()).Line + 1; lines > longest {
			t.Error(files.Position(d.Pos()), d.Name.Name, "has", lines, "lines")
		}
	case *ast.GenDecl:
		for _, s := range d.Specs {
			if v, ok := s.(*ast.ValueSpec); ok && d.Tok == token.VAR && !isTable(v) {
				t.Error(files.Position(v.Pos()), v.Names[0].Name, "is no table")
			}
		}
	}
}

// isTable tells whether all variables of a declaration have values that are written out, or are errors.
func isTable(v *ast.ValueSpec) bool {
	if len(v.Values) != len(v.Names) {
		return false
	}
	for _, value := range v.Values {
		isMade := false
		ast.Inspect(value, func(n ast.Node) bool {
			switch n := n.(type) {
			case *ast.CallExpr:
				f, ok := n.Fun.(*ast.SelectorExpr)
				isMade = isMade || !ok || f.Sel.Name != "New"
			case *ast.UnaryExpr:
				isMade = isMade || n.Op == token.AND
			case *ast.FuncLit, *ast.MapType:
				isMade = true
			}
			return true
		})
		if isMade {
			return false
		}
	}
	return true
}
