package lower_test

import (
	"math/big"
	"testing"

	"exactppl/api"
	"exactppl/lower"
	"exactppl/rational"
)

// P12.3 and P12.4: the forms of an assignment compute the value of its expression.

// thing is a value: a number, a tuple, or a list with its capacity.
type thing struct {
	number   *big.Rat // nil for a tuple and a list
	elements []thing
	capacity int
	isList   bool
}

func numeral(n int) thing { return thing{number: big.NewRat(int64(n), 1)} }

func truth(b bool) thing {
	if b {
		return numeral(1)
	}
	return numeral(0)
}

func (x thing) isTrue() bool { return x.number.Sign() != 0 }

func (x thing) equals(y thing) bool {
	if x.number != nil {
		return x.number.Cmp(y.number) == 0
	}
	if len(x.elements) != len(y.elements) {
		return false
	}
	for i := range x.elements {
		if !x.elements[i].equals(y.elements[i]) {
			return false
		}
	}
	return true
}

func bigRat(r api.Rat) *big.Rat {
	x, _ := new(big.Rat).SetString(rational.Format(r))
	return x
}

// arithmetic returns the result of an operator with numbers, or nil if it is another one.
func arithmetic(op int, a, b *big.Rat) *big.Rat {
	switch op {
	case api.ExAdd:
		return new(big.Rat).Add(a, b)
	case api.ExSub:
		return new(big.Rat).Sub(a, b)
	case api.ExMul:
		return new(big.Rat).Mul(a, b)
	case api.ExLt:
		return truth(a.Cmp(b) < 0).number
	case api.ExLe:
		return truth(a.Cmp(b) <= 0).number
	case api.ExAnd:
		return truth(a.Sign() != 0 && b.Sign() != 0).number
	case api.ExOr:
		return truth(a.Sign() != 0 || b.Sign() != 0).number
	}
	return nil
}

// valueOf returns the value of an expression.
func valueOf(e api.Expr, variables map[string]thing) thing {
	args := each(e.Args, func(arg api.Expr) thing { return valueOf(arg, variables) })
	switch e.Op {
	case api.ExBool, api.ExInt:
		return numeral(e.Int)
	case api.ExRat:
		return thing{number: bigRat(e.Rat)}
	case api.ExName:
		return variables[e.Name]
	case api.ExNot:
		return truth(!args[0].isTrue())
	case api.ExNeg:
		return thing{number: new(big.Rat).Neg(args[0].number)}
	case api.ExEq:
		return truth(args[0].equals(args[1]))
	case api.ExCond:
		return chosen(args[0].isTrue(), args[1], args[2])
	case api.ExTuple:
		return thing{elements: args}
	case api.ExField:
		return args[0].elements[e.Int]
	case api.ExList:
		return thing{elements: args, capacity: len(args), isList: true}
	case api.ExPush:
		l := args[0]
		if len(l.elements) < l.capacity {
			l.elements = append(l.elements[:len(l.elements):len(l.elements)], args[1])
		}
		return l
	case api.ExLen:
		return numeral(len(args[0].elements))
	case api.ExAt:
		for k, element := range args[0].elements {
			if args[1].equals(numeral(k)) {
				return element
			}
		}
		return numeral(0)
	}
	return thing{number: arithmetic(e.Op, args[0].number, args[1].number)}
}

// chosen returns the first value, or otherwise the second one. The list has the greater capacity in both cases.
func chosen(first bool, a, b thing) thing {
	result := b
	if first {
		result = a
	}
	result.capacity = max(a.capacity, b.capacity)
	if !result.isList {
		elements := make([]thing, len(result.elements))
		for i := range elements {
			elements[i] = chosen(first, a.elements[i], b.elements[i])
		}
		result.elements = elements
	}
	return result
}

// formValue returns the value of a form.
func formValue(f api.Form, state []*big.Rat) *big.Rat {
	args := each(f.Args, func(arg api.Form) *big.Rat { return formValue(arg, state) })
	switch f.Op {
	case api.FoInt:
		return numeral(f.Int).number
	case api.FoRat:
		return bigRat(f.Rat)
	case api.FoVar:
		return state[f.Int]
	case api.FoNot:
		return truth(args[0].Sign() == 0).number
	case api.FoEq:
		return truth(args[0].Cmp(args[1]) == 0).number
	case api.FoCond:
		if args[0].Sign() != 0 {
			return args[1]
		}
		return args[2]
	}
	same := map[int]int{api.FoAdd: api.ExAdd, api.FoSub: api.ExSub, api.FoMul: api.ExMul, api.FoLt: api.ExLt, api.FoLe: api.ExLe, api.FoAnd: api.ExAnd, api.FoOr: api.ExOr}
	return arithmetic(same[f.Op], args[0], args[1])
}

// random returns a value of the type u, and appends its cells to the state. What stands behind the length of a list means nothing.
func (m *maker) random(u api.Type, state *[]*big.Rat) thing {
	var x thing
	switch u.Kind {
	case api.TypeTuple:
		return thing{elements: each(u.Elems, func(u api.Type) thing { return m.random(u, state) })}
	case api.TypeList:
		n := m.IntN(u.Max + 1)
		*state = append(*state, numeral(n).number)
		x = thing{capacity: u.Max, isList: true}
		for range u.Max {
			x.elements = append(x.elements, m.random(u.Elems[0], state))
		}
		x.elements = x.elements[:n]
		return x
	case api.TypeBool:
		x = numeral(m.IntN(2))
	case api.TypeReal:
		x = thing{number: big.NewRat(int64(m.IntN(7)-3), int64(1+m.IntN(3)))}
	case api.TypeInt:
		x = numeral(u.Low + m.IntN(u.High-u.Low+1))
	default:
		x = numeral(m.IntN(6))
	}
	*state = append(*state, x.number)
	return x
}

// cellsOf returns the cells of a value of the type u, with 0 behind the length of a list.
func cellsOf(x thing, u api.Type) []*big.Rat {
	var l []*big.Rat
	switch u.Kind {
	case api.TypeTuple:
		for i, element := range x.elements {
			l = append(l, cellsOf(element, u.Elems[i])...)
		}
	case api.TypeList:
		l = append(l, numeral(len(x.elements)).number)
		for k := range u.Max {
			if k < len(x.elements) {
				l = append(l, x.elements[k].number)
			} else {
				l = append(l, numeral(0).number)
			}
		}
	default:
		l = append(l, x.number)
	}
	return l
}

func TestMeaning(t *testing.T) {
	m := newMaker(131)
	done := 0
	for range 3000 {
		b := m.block("", pick(m, 0, 0, api.TypeNat, api.TypeReal))
		for range 3 {
			d := pick(m, m.vars...)
			e := m.expr(d.Type, m.IntN(5))
			module, code := lower.Lower(api.Program{Vars: b.Vars, Body: []api.Stmt{{Kind: api.StAssign, Name: d.Name, Expr: e}}, Result: b.Result})
			if code != api.OK {
				continue // there are too many brackets
			}
			var state []*big.Rat
			variables := map[string]thing{}
			for _, d := range b.Vars {
				variables[d.Name] = m.random(d.Type, &state)
			}
			want := cellsOf(valueOf(e, variables), d.Type)
			got := each(module.Body[0].Args, func(f api.Form) *big.Rat { return formValue(f, state) })
			if show(got) != show(want) {
				t.Fatalf("%+v has the value %v in %v, not %v", e, got, variables, want)
			}
			done++
		}
	}
	if done < 8000 {
		t.Error("only", done, "expressions have a value")
	}
}

// Example 9 of the document: a literal list has no room.
func TestNoRoom(t *testing.T) {
	m := moduleOf(t, "var l: list[2] bool; l := push(push([true], false), true); return l;")
	state := []*big.Rat{numeral(0).number, numeral(0).number, numeral(0).number}
	got := each(m.Body[0].Args, func(f api.Form) *big.Rat { return formValue(f, state) })
	if want := []*big.Rat{numeral(1).number, numeral(1).number, numeral(0).number}; show(got) != show(want) {
		t.Errorf("the list is stored as %v", got)
	}
}
