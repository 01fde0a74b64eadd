// Package rules holds the program's files against shared/LANGUAGE.md, as far as their text shows it; it has tests alone.
package rules

import (
	"bytes"
	"go/ast"
	"go/format"
	"go/parser"
	"go/token"
	"io/fs"
	"os"
	"path/filepath"
	"strconv"
	"strings"
	"testing"
)

const allowed = " bytes cmp container/heap errors iter maps math math/big math/bits slices sort strconv strings sync sync/atomic unicode unicode/utf8 "

// longest is above the rule's "some 60 lines", so that only what is plainly too long fails.
const longest = 66

// programFiles tells the Go files of the program: no tests, nothing of the shared tests laid beside it.
func programFiles(t *testing.T) []string {
	var files []string
	err := filepath.WalkDir("..", func(path string, d fs.DirEntry, err error) error {
		if err != nil {
			return err
		}
		if d.IsDir() && (d.Name() == "sharedtests" || d.Name() == ".git") {
			return filepath.SkipDir
		}
		if strings.HasSuffix(path, ".go") && !strings.HasSuffix(path, "_test.go") {
			files = append(files, path)
		}
		return nil
	})
	if err != nil || len(files) == 0 {
		t.Fatalf("%d files, %v", len(files), err)
	}
	return files
}

// faults tells what in a file's text is outside the language.
func faults(name string, text []byte) []string {
	set := token.NewFileSet()
	file, err := parser.ParseFile(set, name, text, parser.ParseComments)
	if err != nil {
		return []string{err.Error()}
	}
	var out []string
	for _, i := range file.Imports {
		path, _ := strconv.Unquote(i.Path.Value)
		if !strings.HasPrefix(path, "cairn/") && !strings.Contains(allowed, " "+path+" ") {
			out = append(out, "import of "+path)
		}
	}
	for _, group := range file.Comments {
		for _, c := range group.List {
			if strings.HasPrefix(c.Text, "//go:") || strings.HasPrefix(c.Text, "// +build") {
				out = append(out, "line "+c.Text)
			}
		}
	}
	for _, d := range file.Decls {
		if f, ok := d.(*ast.FuncDecl); ok && set.Position(f.End()).Line-set.Position(f.Pos()).Line >= longest {
			out = append(out, "long function "+f.Name.Name)
		}
	}
	if tidy, err := format.Source(text); err != nil || !bytes.Equal(tidy, text) {
		out = append(out, "another layout than gofmt's")
	}
	return out
}

func TestLanguage(t *testing.T) {
	for _, name := range programFiles(t) {
		text, err := os.ReadFile(name)
		if err != nil {
			t.Fatal(err)
		}
		for _, f := range faults(name, text) {
			t.Errorf("%s: %s", name, f)
		}
	}
}

func TestFaultsAreSeen(t *testing.T) {
	long := "package p\n\nfunc f() {\n" + strings.Repeat("\tg()\n", longest) + "}\n"
	for _, text := range []string{
		"package p\n\nimport \"fmt\"\n",
		"package p\n\nimport \"unsafe\"\n",
		"package p\n\nimport \"C\"\n",
		"package p\n\nimport \"example.com/x\"\n",
		"//go:build linux\n\npackage p\n",
		"package p\n\n//go:noinline\nfunc f() {}\n",
		"package p\nfunc  f() {}\n",
		"package p\n\nfunc f() {\n",
		long,
	} {
		if len(faults("p.go", []byte(text))) == 0 {
			t.Errorf("no fault seen in %q", text)
		}
	}
	if got := faults("p.go", []byte("package p\n\nimport \"cairn/api\"\n\nvar x = api.OK\n")); len(got) != 0 {
		t.Errorf("faults seen where there are none: %v", got)
	}
}
