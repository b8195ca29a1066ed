// Package rules holds the project's files against the rules of the language, as far as their text shows it.
package rules

import (
	"bytes"
	"go/ast"
	"go/format"
	"go/parser"
	"go/token"
	"io/fs"
	"os"
	"path/filepath"
	"slices"
	"strconv"
	"strings"
	"testing"
)

// layers, by their numbers, api as number 0: a layer imports only what stands ahead of it.
var layers = []string{
	"api", "octet", "sum", "ring", "sector", "blocks", "record", "super", "home", "wal", "scan",
	"ticket", "ledger", "admit", "lock", "waits", "buffer", "cache", "txn", "group", "point",
	"redo", "engine", "history", "serial", "durable", "bound", "explore", "script",
}

var library = []string{
	"bytes", "cmp", "container/heap", "errors", "iter", "maps", "math", "math/big", "math/bits",
	"slices", "sort", "strconv", "strings", "sync", "sync/atomic", "unicode", "unicode/utf8",
}

// mostLines of a function: the rule says some 60.
const mostLines = 60

// sources tells the paths of the program's files, tests of any kind left out.
func sources(t *testing.T) []string {
	t.Helper()
	var paths []string
	err := filepath.WalkDir("..", func(path string, d fs.DirEntry, err error) error {
		if err != nil {
			return err
		}
		if d.IsDir() && (d.Name() == "sharedtests" || d.Name() == ".git") {
			return filepath.SkipDir
		}
		if strings.HasSuffix(path, ".go") && !strings.HasSuffix(path, "_test.go") {
			paths = append(paths, path)
		}
		return nil
	})
	if err != nil {
		t.Fatal(err)
	}
	if len(paths) < len(layers) {
		t.Fatalf("%d files of %d packages", len(paths), len(layers))
	}
	return paths
}

// parse tells a file, with its remarks.
func parse(t *testing.T, path string) (*token.FileSet, *ast.File) {
	t.Helper()
	set := token.NewFileSet()
	file, err := parser.ParseFile(set, path, nil, parser.ParseComments)
	if err != nil {
		t.Fatal(err)
	}
	return set, file
}

// mayImport tells whether a package may import another one.
func mayImport(from, path string) bool {
	own, ok := strings.CutPrefix(path, "wicket/")
	if !ok {
		return slices.Contains(library, path)
	}
	at, to := slices.Index(layers, from), slices.Index(layers, own)
	return at < 0 || to < at
}

func TestEachLayerHasAPackage(t *testing.T) {
	for _, name := range layers {
		if _, err := os.Stat(filepath.Join("..", name, name+".go")); err != nil {
			t.Error(err)
		}
	}
}

func TestImports(t *testing.T) {
	for _, path := range sources(t) {
		_, file := parse(t, path)
		for _, spec := range file.Imports {
			name, err := strconv.Unquote(spec.Path.Value)
			if err != nil || !mayImport(filepath.Base(filepath.Dir(path)), name) {
				t.Errorf("%s imports %s", path, spec.Path.Value)
			}
		}
	}
}

func TestNoDirectives(t *testing.T) {
	for _, path := range sources(t) {
		_, file := parse(t, path)
		for _, group := range file.Comments {
			for _, c := range group.List {
				if strings.HasPrefix(c.Text, "//go:") || strings.HasPrefix(c.Text, "// +build") {
					t.Errorf("%s has the line %s", path, c.Text)
				}
			}
		}
	}
}

func TestFunctionsAreShort(t *testing.T) {
	for _, path := range sources(t) {
		set, file := parse(t, path)
		for _, d := range file.Decls {
			f, ok := d.(*ast.FuncDecl)
			if !ok {
				continue
			}
			if n := set.Position(f.End()).Line - set.Position(f.Pos()).Line + 1; n > mostLines {
				t.Errorf("%s: %s has %d lines", path, f.Name.Name, n)
			}
		}
	}
}

func TestLayout(t *testing.T) {
	for _, path := range sources(t) {
		text, err := os.ReadFile(path)
		if err != nil {
			t.Fatal(err)
		}
		if laid, err := format.Source(text); err != nil || !bytes.Equal(laid, text) {
			t.Errorf("%s is not in gofmt's layout", path)
		}
	}
}
