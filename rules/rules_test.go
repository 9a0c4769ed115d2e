// Package rules: the program's files keep to its language, as far as that can be seen in their shape. It has tests alone.
package rules

import (
	"bytes"
	"go/ast"
	"go/format"
	"go/parser"
	"go/token"
	"os"
	"path/filepath"
	"strings"
	"testing"
)

const longest = 42 // lines of a function, with its head and its end

type checker struct {
	t    *testing.T
	name string
	set  *token.FileSet
}

func (c *checker) say(at token.Pos, what string) {
	c.t.Helper()
	c.t.Errorf("%s:%d: %s", c.name, c.set.Position(at).Line, what)
}

// TestLanguage reads every file of the project that is not a test.
func TestLanguage(t *testing.T) {
	files := 0
	err := filepath.WalkDir("..", func(path string, d os.DirEntry, err error) error {
		if err != nil || d.IsDir() || !strings.HasSuffix(path, ".go") || strings.HasSuffix(path, "_test.go") {
			return err
		}
		files++
		return checkFile(t, path)
	})
	if err != nil || files < 8 {
		t.Errorf("%d files read, error %v", files, err)
	}
}

func checkFile(t *testing.T, path string) error {
	text, err := os.ReadFile(path)
	if err != nil {
		return err
	}
	c := &checker{t, path, token.NewFileSet()}
	file, err := parser.ParseFile(c.set, path, text, parser.ParseComments)
	if err != nil {
		return err
	}
	laidOut, err := format.Source(text)
	if err != nil {
		return err
	}
	if !bytes.Equal(laidOut, text) {
		t.Errorf("%s: not in gofmt's layout", path)
	}
	for _, i := range file.Imports {
		if i.Path.Value != `"strconv"` && !strings.HasPrefix(i.Path.Value, `"statute/`) {
			c.say(i.Pos(), "import of "+i.Path.Value)
		}
	}
	for _, d := range file.Decls {
		c.declaration(d)
	}
	ast.Inspect(file, c.node)
	for _, group := range file.Comments {
		for _, line := range group.List {
			if strings.HasPrefix(line.Text, "//go:") {
				c.say(line.Pos(), "a line for the compiler")
			}
		}
	}
	return nil
}

func (c *checker) declaration(d ast.Decl) {
	switch d := d.(type) {
	case *ast.FuncDecl:
		lines := c.set.Position(d.End()).Line - c.set.Position(d.Pos()).Line + 1
		if lines > longest {
			c.say(d.Pos(), "a long function: "+d.Name.Name)
		}
		if d.Type.TypeParams != nil {
			c.say(d.Pos(), "a generic function")
		}
	case *ast.GenDecl:
		if d.Tok == token.VAR && !isTable(d) {
			c.say(d.Pos(), "a package-level variable that is no table")
		}
	}
}

// isTable tells whether a declaration is of arrays alone, each with its elements.
func isTable(d *ast.GenDecl) bool {
	for _, s := range d.Specs {
		for _, v := range s.(*ast.ValueSpec).Values {
			list, ok := v.(*ast.CompositeLit)
			if !ok {
				return false
			}
			array, ok := list.Type.(*ast.ArrayType)
			if !ok || array.Len == nil {
				return false
			}
		}
		if len(s.(*ast.ValueSpec).Values) == 0 {
			return false
		}
	}
	return true
}

func (c *checker) node(n ast.Node) bool {
	switch n := n.(type) {
	case *ast.GoStmt, *ast.SelectStmt, *ast.SendStmt, *ast.ChanType:
		c.say(n.Pos(), "goroutines and channels")
	case *ast.DeferStmt:
		c.say(n.Pos(), "defer")
	case *ast.MapType:
		c.say(n.Pos(), "a map")
	case *ast.InterfaceType, *ast.TypeAssertExpr, *ast.TypeSwitchStmt:
		c.say(n.Pos(), "an interface")
	case *ast.FuncLit:
		c.say(n.Pos(), "a closure")
	case *ast.BasicLit:
		if n.Kind == token.FLOAT || n.Kind == token.IMAG {
			c.say(n.Pos(), "a float")
		}
	case *ast.Ident:
		if strings.Contains(" panic recover cap any error float32 float64 complex64 complex128 uintptr ", " "+n.Name+" ") {
			c.say(n.Pos(), "the word "+n.Name)
		}
	case *ast.AssignStmt:
		c.assignment(n)
	}
	return true
}

// assignment asks that one of several targets is a plain name, and that a list which grows takes its own place.
func (c *checker) assignment(a *ast.AssignStmt) {
	for _, target := range a.Lhs {
		if _, plain := target.(*ast.Ident); !plain && len(a.Lhs) > 1 {
			c.say(a.Pos(), "several targets, of which one is no plain name")
		}
	}
	call, ok := a.Rhs[0].(*ast.CallExpr)
	if !ok || c.source(call.Fun) != "append" {
		return
	}
	if c.source(a.Lhs[0]) != c.source(call.Args[0]) {
		c.say(a.Pos(), "append to another list than the one that it takes the place of")
	}
}

func (c *checker) source(e ast.Expr) string {
	var text bytes.Buffer
	if format.Node(&text, c.set, e) != nil {
		return ""
	}
	return text.String()
}
