// Package lang holds the program's text against the rules of its language that a parser can see.
package lang

import (
	"bytes"
	"go/ast"
	"go/format"
	"go/parser"
	"go/token"
	"os"
	"path/filepath"
	"strconv"
	"strings"
	"testing"
)

const allowed = " bytes cmp container/heap errors iter maps math math/big math/bits slices sort strconv strings sync sync/atomic unicode unicode/utf8 "

const longest = 65 // lines of a function: "some 60"

// sources: the program's files, without its tests and those laid beside it.
func sources(t *testing.T) []string {
	t.Helper()
	all, err := filepath.Glob("../*/*.go")
	if err != nil {
		t.Fatal(err)
	}
	var out []string
	for _, f := range all {
		if !strings.HasSuffix(f, "_test.go") && !strings.HasPrefix(f, "../sharedtests/") {
			out = append(out, f)
		}
	}
	if len(out) < 31 {
		t.Fatalf("%d files are fewer than there are packages", len(out))
	}
	return out
}

func TestLanguage(t *testing.T) {
	for _, name := range sources(t) {
		text, err := os.ReadFile(name)
		if err != nil {
			t.Fatal(err)
		}
		set := token.NewFileSet()
		file, err := parser.ParseFile(set, name, text, parser.ParseComments)
		if err != nil {
			t.Fatal(err)
		}
		checkLayout(t, name, text)
		checkImports(t, name, file)
		checkRemarks(t, name, file)
		checkFunctions(t, name, set, file)
		checkGoroutines(t, name, file)
	}
}

func checkLayout(t *testing.T, name string, text []byte) {
	neat, err := format.Source(text)
	if err != nil || !bytes.Equal(neat, text) {
		t.Errorf("%s: not in gofmt's layout", name)
	}
}

func checkImports(t *testing.T, name string, file *ast.File) {
	for _, i := range file.Imports {
		path, _ := strconv.Unquote(i.Path.Value)
		if !strings.HasPrefix(path, "weir/") && !strings.Contains(allowed, " "+path+" ") {
			t.Errorf("%s: imports %s", name, path)
		}
	}
}

func checkRemarks(t *testing.T, name string, file *ast.File) {
	for _, group := range file.Comments {
		for _, c := range group.List {
			if strings.HasPrefix(c.Text, "//go:") || strings.HasPrefix(c.Text, "// +build") {
				t.Errorf("%s: has the line %s", name, c.Text)
			}
		}
	}
}

func checkFunctions(t *testing.T, name string, set *token.FileSet, file *ast.File) {
	for _, d := range file.Decls {
		f, ok := d.(*ast.FuncDecl)
		if !ok {
			continue
		}
		if n := set.Position(f.End()).Line - set.Position(f.Pos()).Line + 1; n > longest {
			t.Errorf("%s: %s has %d lines", name, f.Name.Name, n)
		}
	}
}

// checkGoroutines: rule 10 of the document: package gate alone begins them.
func checkGoroutines(t *testing.T, name string, file *ast.File) {
	if file.Name.Name == "gate" {
		return
	}
	ast.Inspect(file, func(n ast.Node) bool {
		if _, ok := n.(*ast.GoStmt); ok {
			t.Errorf("%s: begins a goroutine", name)
		}
		return true
	})
}
