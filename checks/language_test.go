// Package checks holds the tests of what goes for all packages: the numbers of package api, and the rules of shared/LANGUAGE.md that a program's text shows.
package checks

import (
	"bytes"
	"go/ast"
	"go/format"
	"go/parser"
	"go/token"
	"go/types"
	"io/fs"
	"os"
	"path/filepath"
	"slices"
	"strconv"
	"strings"
	"testing"
)

const mostLines = 60

func allowedImports() []string {
	return []string{"bytes", "cmp", "container/heap", "errors", "iter", "maps", "math", "math/bits", "slices", "sort", "strconv", "strings", "sync", "sync/atomic", "unicode", "unicode/utf8"}
}

// sources answers the paths of the program's own Go files, tests left out.
func sources(t *testing.T) []string {
	var out []string
	err := filepath.WalkDir("..", func(path string, d fs.DirEntry, err error) error {
		if err != nil {
			return err
		}
		if d.IsDir() && (d.Name() == "sharedtests" || d.Name() == ".git") {
			return filepath.SkipDir
		}
		if strings.HasSuffix(path, ".go") && !strings.HasSuffix(path, "_test.go") {
			out = append(out, path)
		}
		return nil
	})
	if err != nil || len(out) == 0 {
		t.Fatal("no source is found: ", err)
	}
	return out
}

func TestLanguage(t *testing.T) {
	for _, path := range sources(t) {
		text, err := os.ReadFile(path)
		if err != nil {
			t.Fatal(err)
		}
		for _, fault := range faults(path, text) {
			t.Error(fault)
		}
	}
}

// TestLanguageFindsFaults sees to it that the rules refuse what they are there for.
func TestLanguageFindsFaults(t *testing.T) {
	long := "package p\n\nfunc f() {\n" + strings.Repeat("\tf()\n", mostLines) + "}\n"
	for _, text := range []string{
		"package p\n\nimport _ \"fmt\"\n",
		"package p\n\nimport _ \"example.org/x\"\n",
		"package p\n\nimport \"iter\"\n\nvar _ = iter.Pull[int]\n",
		"package p\n\nimport \"sync\"\n\ntype T struct{ m sync.Map }\n",
		"//go:build linux\n\npackage p\n",
		"package p\n\nfunc f( ) {}\n",
		"package p\n\nfunc init() {}\n",
		"package p\n\nvar n int\n",
		"package p\n\nvar m = map[int]int{}\n",
		"package p\n\nvar f = func() {}\n",
		"package p\n\nvar b = make([]byte, 1)\n",
		long,
	} {
		if len(faults("p.go", []byte(text))) == 0 {
			t.Errorf("no fault is found in %q", text)
		}
	}
	right := "package p\n\nimport (\n\t\"errors\"\n\t\"gantry/api\"\n)\n\nvar errNone = errors.New(\"none\")\n\nvar table = [2]int{1, 2}\n\nvar _ = api.OK\n"
	if f := faults("p.go", []byte(right)); len(f) != 0 {
		t.Error(f)
	}
}

// faults answers what a source has that the rules refuse.
func faults(path string, text []byte) []string {
	set := token.NewFileSet()
	file, err := parser.ParseFile(set, path, text, parser.ParseComments)
	if err != nil {
		return []string{err.Error()}
	}
	var out []string
	if plain, err := format.Source(text); err != nil || !bytes.Equal(plain, text) {
		out = append(out, path+": not in gofmt's layout")
	}
	for _, f := range slices.Concat(importFaults(file), remarkFaults(file), nameFaults(file), packageLevelFaults(set, file)) {
		out = append(out, path+": "+f)
	}
	return out
}

func importFaults(file *ast.File) []string {
	var out []string
	for _, i := range file.Imports {
		name, _ := strconv.Unquote(i.Path.Value)
		if !strings.HasPrefix(name, "gantry/") && !slices.Contains(allowedImports(), name) {
			out = append(out, "imports "+name)
		}
	}
	return out
}

func remarkFaults(file *ast.File) []string {
	var out []string
	for _, group := range file.Comments {
		for _, c := range group.List {
			if strings.HasPrefix(c.Text, "//go:") || strings.HasPrefix(c.Text, "// +build") {
				out = append(out, "has the line "+c.Text)
			}
		}
	}
	return out
}

// nameFaults looks for names of the library's packages that are not to be used though the package is.
func nameFaults(file *ast.File) []string {
	refused := []string{"iter.Pull", "iter.Pull2", "sync.Map", "sync.Pool", "sync.Cond", "sync.NewCond", "sync.OnceFunc", "sync.OnceValue", "sync.OnceValues"}
	var out []string
	ast.Inspect(file, func(n ast.Node) bool {
		if s, ok := n.(*ast.SelectorExpr); ok && slices.Contains(refused, types.ExprString(s)) {
			out = append(out, "uses "+types.ExprString(s))
		}
		return true
	})
	return out
}

func packageLevelFaults(set *token.FileSet, file *ast.File) []string {
	var out []string
	for _, d := range file.Decls {
		switch x := d.(type) {
		case *ast.FuncDecl:
			if lines := set.Position(x.End()).Line - set.Position(x.Pos()).Line + 1; lines > mostLines {
				out = append(out, x.Name.Name+" has "+strconv.Itoa(lines)+" lines")
			}
			if x.Recv == nil && x.Name.Name == "init" {
				out = append(out, "has func init")
			}
		case *ast.GenDecl:
			for _, s := range x.Specs {
				if v, ok := s.(*ast.ValueSpec); ok && x.Tok == token.VAR {
					out = append(out, variableFaults(v)...)
				}
			}
		}
	}
	return out
}

func variableFaults(v *ast.ValueSpec) []string {
	if len(v.Values) != len(v.Names) {
		return []string{v.Names[0].Name + " has no value of its own"}
	}
	var out []string
	for i, value := range v.Values {
		switch x := value.(type) {
		case *ast.CallExpr:
			if types.ExprString(x.Fun) != "errors.New" {
				out = append(out, v.Names[i].Name+" is made by a call")
			}
		case *ast.FuncLit:
			out = append(out, v.Names[i].Name+" is a function")
		case *ast.CompositeLit:
			if _, ok := x.Type.(*ast.MapType); ok {
				out = append(out, v.Names[i].Name+" is a map")
			}
		}
	}
	return out
}
