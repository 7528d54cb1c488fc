package printer_test

import (
	"reflect"
	"testing"

	"exactppl/api"
	"exactppl/printer"
)

// P10.1: random programs that were damaged at one place or more

// places returns all fields and elements in v that are no structs.
func places(v reflect.Value) []reflect.Value {
	var l []reflect.Value
	switch v.Kind() {
	case reflect.Struct:
		for i := range v.NumField() {
			l = append(l, places(v.Field(i))...)
		}
	case reflect.Slice:
		l = append(l, v)
		for i := range v.Len() {
			l = append(l, places(v.Index(i))...)
		}
	default:
		l = append(l, v)
	}
	return l
}

// change changes a field or a list.
func (m maker) change(v reflect.Value) {
	switch v.Kind() {
	case reflect.Int:
		n := int(v.Int())
		v.SetInt(int64(pick(m, n+1, n-1, -n, 0, 1, 2, 22, 1000000, 1000001, -1000000, -1000001, -1<<63, 1<<63-1)))
	case reflect.Uint32:
		v.SetUint(uint64(m.Uint32N(4)))
	case reflect.Bool:
		v.SetBool(!v.Bool())
	case reflect.String:
		v.SetString(pick(m, "", "y", "bool", "while", "posterior", "abcdefghijkl", "abcdefghijklm", "1x", "x y", "x ", " x", "x\n", "x;", "x#", "é", "x.0", "(x)", "-x", "1", "\x00"))
	case reflect.Slice:
		m.changeList(v)
	}
}

// changeList takes away an element of a list, or adds one.
func (m maker) changeList(v reflect.Value) {
	n := v.Len()
	l := reflect.AppendSlice(reflect.MakeSlice(v.Type(), 0, n+1), v)
	switch {
	case n > 0 && m.often(3):
		l = l.Slice(0, n-1)
	case n > 0 && m.often(3):
		l = l.Slice(1, n)
	case n > 0 && m.often(2):
		l = reflect.Append(l, l.Index(m.IntN(n)))
	default:
		added := reflect.New(v.Type().Elem()).Elem()
		switch part := added.Addr().Interface().(type) {
		case *api.Expr:
			*part = m.expr(1)
		case *api.Stmt:
			*part = m.statement(1)
		case *api.Type:
			*part = m.typeOf(1)
		case *api.Decl:
			*part = m.declaration()
		case *api.Func:
			*part = m.query()
		}
		l = reflect.Append(l, added)
	}
	v.Set(l)
}

// damage changes p, which shares no memory with another program, at some places.
func (m maker) damage(p *api.Program) {
	for range 1 + m.IntN(2) {
		l := places(reflect.ValueOf(p).Elem())
		m.change(pick(m, l...))
	}
}

func TestDamagedPrograms(t *testing.T) {
	m, r := newMaker(211), newReference()
	count := map[api.Errno]int{}
	for range 12000 {
		p := bodyOf(m.statement(2))
		switch m.IntN(4) {
		case 0:
			p.Body = nil
			p.Vars = many(m, 1, 2, m.declaration)
		case 1:
			p.Body = []api.Stmt{{Kind: api.StDraw, Name: "x", Draw: m.draw()}}
		case 2:
			p.Params, p.Funcs, p.Queries = []string{"p"}, []api.Func{{Name: "f", Args: []api.Decl{{Name: "x", Type: truth}}, Result: "x"}}, []api.Func{{Name: "q", Result: "x"}}
		}
		p = copyOf(p) // no part stands at two places
		m.damage(&p)
		count[checkAgainst(t, r, p)]++
	}
	if count[api.OK] < 1000 || count[api.ErrForm] < 5000 {
		t.Error("too few programs", count)
	}
}

func TestDamagedExpressions(t *testing.T) {
	m, r := newMaker(213), newReference()
	count := map[api.Errno]int{}
	for range 12000 {
		p := copyOf(bodyOf(api.Stmt{Kind: api.StObserve, Expr: m.expr(1 + m.IntN(3))}))
		e := &p.Body[0].Expr
		m.change(pick(m, places(reflect.ValueOf(e).Elem())...))
		want := checkAgainst(t, r, p)
		if s, code := printer.Expr(*e); code != want || code == api.OK && s != r.expr(*e) || code != api.OK && s != "" {
			t.Errorf("Expr(%.500s) is %d with the text %s, not %d", show(*e), code, s, want)
		}
		count[want]++
	}
	if count[api.OK] < 500 || count[api.ErrForm] < 5000 {
		t.Error("too few expressions", count)
	}
}
