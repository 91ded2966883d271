package tests

import (
	"bytes"
	"go/ast"
	"go/format"
	"go/parser"
	"go/token"
	"os"
	"path/filepath"
	"slices"
	"strconv"
	"strings"
	"testing"
)

const longestFunction = 60

var libraryAllowed = strings.Fields("bytes cmp container/heap errors iter maps math math/bits slices sort strconv strings sync sync/atomic unicode unicode/utf8")

func TestLanguageOfTheProgram(t *testing.T) {
	names, err := filepath.Glob("../impl/*")
	if err != nil || len(names) == 0 {
		t.Fatalf("no files: %v", err)
	}
	for _, name := range names {
		if filepath.Ext(name) != ".go" {
			t.Errorf("%s is no Go file", name)
			continue
		}
		source, err := os.ReadFile(name)
		if err != nil {
			t.Fatal(err)
		}
		if tidy, err := format.Source(source); err != nil || !bytes.Equal(tidy, source) {
			t.Errorf("%s is not in gofmt's layout: %v", name, err)
		}
		lookAtFile(t, name, source)
	}
}

func lookAtFile(t *testing.T, name string, source []byte) {
	places := token.NewFileSet()
	file, err := parser.ParseFile(places, name, source, parser.SkipObjectResolution)
	if err != nil {
		t.Fatal(err)
	}
	for _, i := range file.Imports {
		if path, _ := strconv.Unquote(i.Path.Value); !slices.Contains(libraryAllowed, path) {
			t.Errorf("%s imports %s", name, path)
		}
	}
	for _, d := range file.Decls {
		f, ok := d.(*ast.FuncDecl)
		if !ok {
			continue
		}
		if lines := places.Position(f.End()).Line - places.Position(f.Pos()).Line + 1; lines > longestFunction {
			t.Errorf("%s: %s has %d lines", name, f.Name.Name, lines)
		}
	}
}
