package core

import (
	"go/ast"
	"go/parser"
	"go/token"
	"path/filepath"
	"strings"
	"testing"

	"seepage/api"
	"seepage/opcode"
)

// P10.2 where what is asked for hangs on the instruction: that is read ahead of it.

func TestAskKnowsItsInstruction(t *testing.T) {
	nine := api.Byte{V: 9}
	for _, c := range []struct {
		what string
		cpu  api.Cpu
		want api.Bus
	}{
		{"STA zp", api.Cpu{Op: 0x85, T: 2, Addr: 7, A: nine}, api.Bus{Addr: 7, Write: true, V: nine}},
		{"STX abs", api.Cpu{Op: 0x8e, T: 3, Addr: 7, X: nine}, api.Bus{Addr: 7, Write: true, V: nine}},
		{"INC zp", api.Cpu{Op: 0xe6, T: 4, Addr: 7, Data: nine}, api.Bus{Addr: 7, Write: true, V: api.Byte{V: 10}}},
		{"PHP", api.Cpu{Op: 0x08, T: 2, A: nine}, api.Bus{Addr: 0x100, Write: true, V: api.Byte{V: 48}}},
		{"PHA", api.Cpu{Op: 0x48, T: 2, A: nine}, api.Bus{Addr: 0x100, Write: true, V: nine}},
		{"BRK", api.Cpu{Op: 0x00, T: 2, PC: 0x1234}, api.Bus{Addr: 0x100, Write: true, V: api.Byte{V: 0x12}}},
		{"BRK of a reset", api.Cpu{Op: 0x00, T: 2, Intr: api.ResetI, PC: 0x1234}, api.Bus{Addr: 0x100}},
	} {
		if got := Ask(c.cpu); got != c.want {
			t.Errorf("%s: Ask(%+v) = %+v, want %+v", c.what, c.cpu, got, c.want)
		}
	}
}

// All that writes does so in its last cycle, at Addr: what crosses no page.
func TestAskOfAllThatWrites(t *testing.T) {
	for op := range 256 {
		o := opcode.Decode(uint8(op))
		if o.Use != api.WriteU && o.Use != api.BothU {
			continue
		}
		if got := Ask(api.Cpu{Op: uint8(op), T: o.Cycles - 1, Addr: 7}); got.Addr != 7 || !got.Write {
			t.Errorf("%s (%x) asks for %+v", o.Name, op, got)
		}
	}
}

// In one expression the language leaves open whether a variable is read ahead of a call that changes it, or behind it. A test that plays sees but one of both, and that may be right by luck: so the program's text is asked whether no variable is read whole beside such a call.

// methods is which ones change what they are called on, by a pointer, and which read it whole.
type methods struct{ change, read map[string]bool }

// methodsOf is those that are declared.
func methodsOf(funcs []*ast.FuncDecl) methods {
	m := methods{map[string]bool{}, map[string]bool{}}
	for _, f := range funcs {
		if f.Recv == nil {
			continue
		}
		if _, pointer := f.Recv.List[0].Type.(*ast.StarExpr); pointer {
			m.change[f.Name.Name] = true
		} else {
			m.read[f.Name.Name] = true
		}
	}
	return m
}

// use is a variable that is read whole, or changed, and where: a call that changes it has all its text.
type use struct {
	name     string
	from, to token.Pos
}

// uses is those of a part of the text: what is read, and what is changed.
func (m methods) uses(part ast.Node) (read, changed []use) {
	ast.Inspect(part, func(n ast.Node) bool {
		call, ok := n.(*ast.CallExpr)
		if !ok {
			return true
		}
		if f, ok := call.Fun.(*ast.SelectorExpr); ok {
			if v, ok := f.X.(*ast.Ident); ok && m.read[f.Sel.Name] {
				read = append(read, use{v.Name, v.Pos(), v.End()})
			}
			if v, ok := f.X.(*ast.Ident); ok && m.change[f.Sel.Name] {
				changed = append(changed, use{v.Name, call.Pos(), call.End()})
			}
		}
		for _, arg := range call.Args {
			if v, ok := arg.(*ast.Ident); ok {
				read = append(read, use{v.Name, v.Pos(), v.End()})
			}
			if by, ok := arg.(*ast.UnaryExpr); ok && by.Op == token.AND {
				if v, ok := by.X.(*ast.Ident); ok {
					changed = append(changed, use{v.Name, call.Pos(), call.End()})
				}
			}
		}
		return true
	})
	return read, changed
}

// open is a variable that is read beside a call that changes it, or "". What is handed to that call itself is read ahead of it.
func (m methods) open(part ast.Node) string {
	read, changed := m.uses(part)
	for _, c := range changed {
		for _, r := range read {
			if r.name == c.name && (r.from < c.from || r.to > c.to) {
				return r.name
			}
		}
	}
	return ""
}

// openIn is such variables in a function, one expression or plain statement after the other.
func (m methods) openIn(f *ast.FuncDecl) []string {
	var l []string
	ast.Inspect(f, func(n ast.Node) bool {
		switch x := n.(type) {
		case *ast.AssignStmt, *ast.ReturnStmt, ast.Expr:
			if v := m.open(x); v != "" {
				l = append(l, v)
			}
			return false
		}
		return true
	})
	return l
}

// funcsOf is the functions of a file, or of a text.
func funcsOf(t *testing.T, file string, text any) []*ast.FuncDecl {
	t.Helper()
	parsed, err := parser.ParseFile(token.NewFileSet(), file, text, 0)
	if err != nil {
		t.Fatal(err)
	}
	var l []*ast.FuncDecl
	for _, d := range parsed.Decls {
		if f, ok := d.(*ast.FuncDecl); ok {
			l = append(l, f)
		}
	}
	return l
}

func TestNothingIsReadBesideWhatChangesIt(t *testing.T) {
	files, err := filepath.Glob("*.go")
	if err != nil {
		t.Fatal(err)
	}
	var funcs []*ast.FuncDecl
	for _, file := range files {
		if !strings.HasSuffix(file, "_test.go") {
			funcs = append(funcs, funcsOf(t, file, nil)...)
		}
	}
	m := methodsOf(funcs)
	if !m.change["turn"] || !m.change["change"] || !m.read["put"] {
		t.Errorf("methods that are there are not found in %v", files)
	}
	for _, f := range funcs {
		for _, v := range m.openIn(f) {
			t.Errorf("%s reads %s beside a call that changes it", f.Name.Name, v)
		}
	}
}

// That what is open is found, and nothing else.
func TestWhatIsReadBesideWhatChangesItIsFound(t *testing.T) {
	for line, open := range map[string]bool{
		"return w.turn().ask(w)":                     true,
		"return w.put(w.change(w.Data))":             true,
		"w.put(w.change(w.Data))":                    true,
		"a, b := f(w), w.turn()":                     true,
		"if w.turn().ask(w).Secret { return }":       true,
		"if ok { return g(w, h(&w)) }":               true,
		"switch { case w.turn() == f(w): w.turn() }": true,
		"now := w.turn(); return now.ask(w)":         false,
		"v := w.change(w.Data); return w.put(v)":     false,
		"now.do(&w)":                                 false,
		"w.load(&b, more(b, 1))":                     false,
		"if f(w) { w.turn() }":                       false,
		"w.turn(); g(w)":                             false,
		"return v.turn().ask(w)":                     false,
	} {
		text := "package p\nfunc (w *work) turn() {}\nfunc (w *work) change() {}\nfunc (w work) put() {}\nfunc f() {" + line + "}"
		funcs := funcsOf(t, "", text)
		if got := methodsOf(funcs).openIn(funcs[len(funcs)-1]); len(got) > 0 != open {
			t.Errorf("of %q is open: %v", line, got)
		}
	}
}
