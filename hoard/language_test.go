package hoard_test

import (
	"bytes"
	"go/ast"
	"go/format"
	"go/parser"
	"go/token"
	"io/fs"
	"os"
	"path/filepath"
	"strings"
	"testing"
)

// TestLanguage: what can be told from the text alone of the language that the program keeps to.
func TestLanguage(t *testing.T) {
	files := programFiles(t)
	if len(files) < 3 {
		t.Fatalf("found only %v", files)
	}
	for _, path := range files {
		text, err := os.ReadFile(path)
		if err != nil {
			t.Fatal(err)
		}
		for _, fault := range faults(path, text) {
			t.Error(fault)
		}
	}
}

// TestLanguageFaults: the check itself finds what it is for.
func TestLanguageFaults(t *testing.T) {
	for _, body := range []string{
		"import \"fmt\"\n\nfunc f() { fmt.Println() }",
		"func f() { go f() }",
		"func f() { defer f() }",
		"func f() { panic(1) }",
		"func f(l []int) int { return cap(l) }",
		"func f() { _ = map[int]int{} }",
		"func f(c chan int) {}",
		"func f(x any) {}",
		"func f(x interface{}) {}",
		"func f(x func()) {}",
		"func f() { _ = func() {} }",
		"func f() { _ = 1.5 }",
		"func f[T int]() {}",
		"func f(a []int) { a[0], a[1] = a[1], a[0] }",
		"var x int",
		"var x = []int{1}",
		"//go:noinline\nfunc f() {}",
		"func f()  {}",
		"func f() {\n" + strings.Repeat("\tf()\n", 45) + "}",
	} {
		if len(faults("x.go", []byte("package x\n\n"+body+"\n"))) == 0 {
			t.Errorf("no fault found in %q", body)
		}
	}
	fine := "package x\n\nvar table = [2]int{1, 2}\n\nfunc f(n int) (int, int) {\n\ta, b := n, table[0]\n\treturn a, b\n}\n"
	if l := faults("x.go", []byte(fine)); len(l) > 0 {
		t.Errorf("faults where there are none: %v", l)
	}
}

func programFiles(t *testing.T) []string {
	t.Helper()
	var files []string
	err := filepath.WalkDir("..", func(path string, d fs.DirEntry, err error) error {
		if err != nil {
			return err
		}
		hidden := d.Name() != ".." && strings.HasPrefix(d.Name(), ".")
		if d.IsDir() && (hidden || d.Name() == "sharedtests") {
			return filepath.SkipDir
		}
		if strings.HasSuffix(path, ".go") && !strings.HasSuffix(path, "_test.go") {
			files = append(files, path)
		}
		return nil
	})
	if err != nil {
		t.Fatal(err)
	}
	return files
}

func faults(path string, text []byte) []string {
	set := token.NewFileSet()
	file, err := parser.ParseFile(set, path, text, parser.ParseComments)
	if err != nil {
		return []string{err.Error()}
	}
	var found []string
	add := func(n ast.Node, what string) {
		found = append(found, set.Position(n.Pos()).String()+": "+what)
	}
	if laid, err := format.Source(text); err != nil || !bytes.Equal(laid, text) {
		add(file, "not in gofmt's layout")
	}
	for _, i := range file.Imports {
		if p := strings.Trim(i.Path.Value, `"`); p != "strconv" && !strings.HasPrefix(p, "hoard/") {
			add(i, "import of "+p)
		}
	}
	for _, g := range file.Comments {
		for _, c := range g.List {
			if strings.HasPrefix(c.Text, "//go:") {
				add(c, c.Text)
			}
		}
	}
	for _, d := range file.Decls {
		if what := declarationFault(set, d); what != "" {
			add(d, what)
		}
	}
	ast.Inspect(file, func(n ast.Node) bool {
		if what := nodeFault(n); what != "" {
			add(n, what)
		}
		return true
	})
	return found
}

func declarationFault(set *token.FileSet, d ast.Decl) string {
	switch d := d.(type) {
	case *ast.FuncDecl:
		if set.Position(d.End()).Line-set.Position(d.Pos()).Line >= 40 {
			return "a function of more than 40 lines"
		}
	case *ast.GenDecl:
		for _, s := range d.Specs {
			v, ok := s.(*ast.ValueSpec)
			if ok && d.Tok == token.VAR && !isTable(v) {
				return "a package-level variable that is no table"
			}
		}
	}
	return ""
}

func isTable(v *ast.ValueSpec) bool {
	for _, x := range v.Values {
		c, ok := x.(*ast.CompositeLit)
		if !ok {
			return false
		}
		if a, ok := c.Type.(*ast.ArrayType); !ok || a.Len == nil {
			return false
		}
	}
	return len(v.Values) > 0
}

func nodeFault(n ast.Node) string {
	switch n := n.(type) {
	case *ast.GoStmt, *ast.DeferStmt, *ast.SelectStmt, *ast.SendStmt, *ast.ChanType:
		return "goroutine, defer or channel"
	case *ast.MapType, *ast.InterfaceType, *ast.TypeAssertExpr, *ast.TypeSwitchStmt:
		return "map or interface"
	case *ast.FuncLit:
		return "closure"
	case *ast.Field:
		if _, ok := n.Type.(*ast.FuncType); ok {
			return "function value"
		}
	case *ast.FuncType:
		if n.TypeParams != nil {
			return "generics"
		}
	case *ast.BasicLit:
		if n.Kind == token.FLOAT || n.Kind == token.IMAG {
			return "float"
		}
	case *ast.Ident:
		switch n.Name {
		case "panic", "recover", "cap", "any", "error", "float32", "float64", "complex64", "complex128":
			return n.Name
		}
	case *ast.AssignStmt:
		for _, l := range n.Lhs {
			if _, ok := l.(*ast.Ident); !ok && len(n.Lhs) > 1 {
				return "several targets that are not plain names"
			}
		}
	}
	return ""
}
