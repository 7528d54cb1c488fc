package checker_test

import (
	"cmp"
	"maps"
	"math/big"
	"slices"
	"strings"

	"exactppl/api"
	"exactppl/printer"
	"exactppl/types"
)

// A reference that follows the sentences of the chapter. It returns the first error together with the sentence from which it follows.

// found is an error and where the chapter says it; nil if there is none.
type found struct {
	code api.Errno
	rule string
}

// first returns the first error. Each one is only looked for if there is none before it.
func first(l ...func() *found) *found {
	for _, look := range l {
		if f := look(); f != nil {
			return f
		}
	}
	return nil
}

// when returns an error that applies if the condition holds.
func when(holds bool, code api.Errno, rule string) *found {
	if holds {
		return &found{code, rule}
	}
	return nil
}

// monomial and sum: a polynomial as its coefficients, without a limit.
type monomial [api.MaxParams]int

type sum map[monomial]*big.Rat

func bigOf(r api.Rat) *big.Rat {
	natural := func(limbs []uint32) *big.Int {
		n := new(big.Int)
		for _, limb := range slices.Backward(limbs) {
			n.Or(n.Lsh(n, 32), big.NewInt(int64(limb)))
		}
		return n
	}
	num, den := natural(r.Num), natural(r.Den)
	if den.Sign() == 0 {
		return new(big.Rat)
	}
	if r.Neg {
		num.Neg(num)
	}
	return new(big.Rat).SetFrac(num, den)
}

// add adds c times the monomial.
func (s sum) add(m monomial, c *big.Rat) {
	if s[m] == nil {
		s[m] = new(big.Rat)
	}
	s[m].Add(s[m], c)
	if s[m].Sign() == 0 {
		delete(s, m)
	}
}

// combined returns s + u times factor.
func (s sum) combined(u sum, factor int64) sum {
	r := sum{}
	for m, c := range s {
		r.add(m, c)
	}
	for m, c := range u {
		r.add(m, new(big.Rat).Mul(c, big.NewRat(factor, 1)))
	}
	return r
}

func (s sum) times(u sum) sum {
	r := sum{}
	for m, c := range s {
		for n, d := range u {
			for v := range n {
				n[v] += m[v]
			}
			r.add(n, new(big.Rat).Mul(c, d))
		}
	}
	return r
}

// constant returns the number that s is, or nil.
func (s sum) constant() *big.Rat {
	switch {
	case len(s) == 0:
		return new(big.Rat)
	case len(s) == 1 && s[monomial{}] != nil:
		return s[monomial{}]
	}
	return nil
}

// occurs reports whether the parameter v occurs in s.
func (s sum) occurs(v int) bool {
	for m := range s {
		if m[v] > 0 {
			return true
		}
	}
	return false
}

// exponent returns the greatest exponent.
func (s sum) exponent() int {
	n := 0
	for m := range s {
		n = max(n, slices.Max(m[:]))
	}
	return n
}

// text writes s in the order of the normal form.
func (s sum) text() string {
	keys := slices.SortedFunc(maps.Keys(s), func(a, b monomial) int { return slices.Compare(b[:], a[:]) })
	var l []string
	for _, m := range keys {
		l = append(l, show(m)+s[m].RatString())
	}
	return strings.Join(l, " ")
}

// textOfPoly writes p as text does, or says what is not in normal form.
func textOfPoly(p api.Poly) string {
	var l []string
	for i, t := range p {
		c := bigOf(t.Coef)
		if len(t.Coef.Den) == 0 || t.Coef.Den[len(t.Coef.Den)-1] == 0 || len(t.Coef.Num) == 0 || t.Coef.Num[len(t.Coef.Num)-1] == 0 || c.Num().BitLen() != bigOf(api.Rat{Num: t.Coef.Num, Den: []uint32{1}}).Num().BitLen() {
			return "a coefficient is not in normal form"
		}
		if i > 0 && slices.Compare(p[i-1].Mono[:], t.Mono[:]) <= 0 || slices.Max(t.Mono[api.MaxParams:]) > 0 {
			return "monomials are not in order"
		}
		l = append(l, show(monomial(t.Mono[:api.MaxParams]))+c.RatString())
	}
	return strings.Join(l, " ")
}

// polynomialOf returns what e denotes, without the end of the examination.
func polynomialOf(params []string, e api.Expr) (sum, *found) {
	var l []sum
	for _, a := range e.Args {
		s, f := polynomialOf(params, a)
		if f != nil {
			return nil, f
		}
		l = append(l, s)
	}
	counts := map[int]int{api.ExInt: 0, api.ExRat: 0, api.ExName: 0, api.ExNeg: 1, api.ExAdd: 2, api.ExSub: 2, api.ExMul: 2}
	n, known := counts[e.Op]
	if !known {
		return nil, &found{api.ErrType, "probability: operator"}
	}
	if n != len(l) {
		return nil, &found{api.ErrType, "probability: number of arguments"}
	}
	r := sum{}
	switch e.Op {
	case api.ExInt:
		r.add(monomial{}, new(big.Rat).SetInt64(int64(e.Int)))
	case api.ExRat:
		r.add(monomial{}, bigOf(e.Rat))
	case api.ExName:
		v := slices.Index(params, e.Name)
		if v < 0 {
			return nil, &found{api.ErrName, "probability: name"}
		}
		m := monomial{}
		m[v] = 1
		r.add(m, big.NewRat(1, 1))
	case api.ExNeg:
		return r.combined(l[0], -1), nil
	case api.ExAdd:
		return l[0].combined(l[1], 1), nil
	case api.ExSub:
		return l[0].combined(l[1], -1), nil
	case api.ExMul:
		return l[0].times(l[1]), nil
	}
	return r, nil
}

func probabilityOf(params []string, e api.Expr) (sum, *found) {
	if len(params) > api.MaxParams {
		return nil, &found{api.ErrLimit, "probability: params"}
	}
	s, f := polynomialOf(params, e)
	if f != nil {
		return nil, f
	}
	if s.exponent() > api.MaxWeight {
		return nil, &found{api.ErrLimit, "probability: exponent"}
	}
	if c := s.constant(); c != nil && (c.Sign() < 0 || c.Cmp(big.NewRat(1, 1)) > 0) {
		return nil, &found{api.ErrRange, "probability: constant"}
	}
	return s, nil
}

// Shapes are written as types: nat for number, and a list without elements for a list without element shape.
var (
	aBool   = api.Type{Kind: api.TypeBool}
	aNumber = api.Type{Kind: api.TypeNat}
	aReal   = api.Type{Kind: api.TypeReal}
)

func isShape(s, u api.Type) bool     { return types.Equal(s, u) }
func isNumericShape(s api.Type) bool { return isShape(s, aNumber) || isShape(s, aReal) }

func shapeOfType(u api.Type) api.Type {
	switch u.Kind {
	case api.TypeInt, api.TypeNat:
		return aNumber
	case api.TypeTuple, api.TypeList:
		s := api.Type{Kind: u.Kind, Max: u.Max}
		for _, element := range u.Elems {
			s.Elems = append(s.Elems, shapeOfType(element))
		}
		return s
	}
	return u
}

// fit returns the common shape of two that fit each other.
func fit(s, u api.Type) (api.Type, bool) {
	switch {
	case isShape(s, aBool) && isShape(u, aBool), isShape(s, aNumber) && isShape(u, aNumber):
		return s, true
	case s.Kind == api.TypeTuple && u.Kind == api.TypeTuple && len(s.Elems) == len(u.Elems):
		r := api.Type{Kind: api.TypeTuple}
		for i := range s.Elems {
			element, ok := fit(s.Elems[i], u.Elems[i])
			if !ok {
				return api.Type{}, false
			}
			r.Elems = append(r.Elems, element)
		}
		return r, true
	case s.Kind == api.TypeList && u.Kind == api.TypeList:
		if len(s.Elems) > 0 && len(u.Elems) > 0 && !isShape(s.Elems[0], u.Elems[0]) {
			return api.Type{}, false
		}
		return api.Type{Kind: api.TypeList, Max: max(s.Max, u.Max), Elems: append(slices.Clone(s.Elems), u.Elems...)[:max(len(s.Elems), len(u.Elems))]}, true
	}
	return api.Type{}, false
}

func assignable(s, u api.Type) bool {
	switch u.Kind {
	case api.TypeBool:
		return isShape(s, aBool)
	case api.TypeInt, api.TypeNat:
		return isShape(s, aNumber)
	case api.TypeReal:
		return isNumericShape(s)
	case api.TypeTuple:
		if s.Kind != api.TypeTuple || len(s.Elems) != len(u.Elems) {
			return false
		}
		for i := range s.Elems {
			if !assignable(s.Elems[i], u.Elems[i]) {
				return false
			}
		}
		return true
	}
	return s.Kind == api.TypeList && s.Max <= u.Max && (len(s.Elems) == 0 || isShape(s.Elems[0], shapeOfType(u.Elems[0])))
}

func containsReal(s api.Type) bool {
	return isShape(s, aReal) || slices.ContainsFunc(s.Elems, containsReal)
}

func containsName(e api.Expr) bool {
	return e.Op == api.ExName || slices.ContainsFunc(e.Args, containsName)
}

// block is a block that is examined.
type block struct {
	whole api.Program
	place string // "program", "func" or "query"
	index int
	vars  []api.Decl
	info  *api.Info
	calls map[string][]string
}

func (b *block) variable(name string) (api.Type, bool) {
	for _, d := range b.vars {
		if d.Name == name {
			return d.Type, true
		}
	}
	return api.Type{}, false
}

// shape returns the shape of e.
func (b *block) shape(e api.Expr) (api.Type, *found) {
	var l []api.Type
	for _, a := range e.Args {
		s, f := b.shape(a)
		if f != nil {
			return s, f
		}
		l = append(l, s)
	}
	l = append(l, api.Type{}, api.Type{}, api.Type{})[:max(3, len(l))]
	x, y, z := l[0], l[1], l[2]
	numeric := isNumericShape(x) && isNumericShape(y)
	wide := aNumber
	if isShape(x, aReal) || isShape(y, aReal) {
		wide = aReal
	}
	wrong := func(rule string) (api.Type, *found) { return api.Type{}, &found{api.ErrType, rule} }
	switch e.Op {
	case api.ExBool:
		return aBool, nil
	case api.ExInt:
		return aNumber, nil
	case api.ExRat:
		return aReal, nil
	case api.ExName:
		u, ok := b.variable(e.Name)
		if !ok {
			return api.Type{}, &found{api.ErrName, "shape: name"}
		}
		return shapeOfType(u), nil
	case api.ExNot:
		if !isShape(x, aBool) {
			return wrong("shape: not")
		}
		return aBool, nil
	case api.ExAnd, api.ExOr:
		if !isShape(x, aBool) || !isShape(y, aBool) {
			return wrong("shape: and, or")
		}
		return aBool, nil
	case api.ExEq:
		if numeric && isShape(wide, aReal) {
			return api.Type{}, &found{api.ErrMeasure, "shape: eq of reals"}
		}
		if _, ok := fit(x, y); !ok {
			return wrong("shape: eq")
		}
		return aBool, nil
	case api.ExLt, api.ExLe:
		if !numeric {
			return wrong("shape: lt, le")
		}
		return aBool, nil
	case api.ExNeg:
		if !isNumericShape(x) {
			return wrong("shape: neg")
		}
		return x, nil
	case api.ExAdd, api.ExSub:
		if !numeric {
			return wrong("shape: add, sub")
		}
		return wide, nil
	case api.ExMul:
		if !numeric {
			return wrong("shape: mul")
		}
		if isShape(wide, aReal) && containsName(e.Args[0]) && containsName(e.Args[1]) {
			return wrong("shape: mul of names")
		}
		return wide, nil
	case api.ExCond:
		common, ok := fit(y, z)
		if !isShape(x, aBool) || !ok || containsReal(y) || containsReal(z) {
			return wrong("shape: cond")
		}
		return common, nil
	case api.ExTuple:
		l = l[:len(e.Args)]
		if slices.ContainsFunc(l, containsReal) {
			return wrong("shape: tuple")
		}
		return api.Type{Kind: api.TypeTuple, Elems: l}, nil
	case api.ExField:
		if x.Kind != api.TypeTuple || len(x.Elems) <= e.Int {
			return wrong("shape: field")
		}
		return x.Elems[e.Int], nil
	case api.ExList:
		l = l[:len(e.Args)]
		other := func(want api.Type) bool {
			return slices.ContainsFunc(l, func(s api.Type) bool { return !isShape(s, want) })
		}
		if len(l) > api.MaxList {
			return wrong("shape: list too long")
		}
		if other(aBool) && other(aNumber) {
			return wrong("shape: list")
		}
		return api.Type{Kind: api.TypeList, Max: len(l), Elems: l[:min(1, len(l))]}, nil
	case api.ExPush:
		if x.Kind != api.TypeList || len(x.Elems) == 0 || !isShape(y, aNumber) && !isShape(y, aBool) || !isShape(x.Elems[0], y) {
			return wrong("shape: push")
		}
		return x, nil
	case api.ExLen:
		if x.Kind != api.TypeList {
			return wrong("shape: len")
		}
		return aNumber, nil
	}
	if x.Kind != api.TypeList || len(x.Elems) == 0 || !isShape(y, aNumber) {
		return wrong("shape: at")
	}
	return x.Elems[0], nil
}

// value examines an expression that is assigned to the type u.
func (b *block) value(e api.Expr, u api.Type, rule string) *found {
	s, f := b.shape(e)
	if f != nil {
		return f
	}
	return when(!assignable(s, u), api.ErrType, rule)
}

// truth examines an expression that must be bool.
func (b *block) truth(e api.Expr, rule string) *found {
	s, f := b.shape(e)
	if f != nil {
		return f
	}
	return when(!isShape(s, aBool), api.ErrType, rule)
}

// weights examines probabilities and returns them. What follows from them is noted if the statement is right.
func (b *block) weights(l []api.Expr) ([]sum, *found) {
	var r []sum
	for _, e := range l {
		s, f := probabilityOf(b.whole.Params, e)
		if f != nil {
			return nil, f
		}
		r = append(r, s)
	}
	return r, nil
}

// note is ErrClass if a parameter occurs in a query, and otherwise adds the parameters to the Info.
func (b *block) note(l []sum, rule string) *found {
	for v := range api.MaxParams {
		for _, s := range l {
			if !s.occurs(v) {
				continue
			}
			if b.place == "query" {
				return &found{api.ErrClass, rule}
			}
			if !slices.Contains(b.info.Params, v) {
				b.info.Params = append(b.info.Params, v)
			}
		}
	}
	return nil
}

func isWithin(n, low, high int) bool { return low <= n && n <= high }

// draw examines a draw of a variable of the kind k.
func (b *block) draw(d api.Draw, k int) *found {
	one := big.NewRat(1, 1)
	var l []sum
	probs := func() (f *found) { l, f = b.weights(d.Probs); return f }
	notInteger := k != api.TypeInt && k != api.TypeNat
	var f *found
	switch d.Kind {
	case api.DrawFlip:
		f = first(probs, func() *found { return when(k != api.TypeBool, api.ErrType, "flip: type") })
	case api.DrawUniform:
		numbers := d.High - d.Low + 1
		f = cmp.Or(when(!isWithin(d.Low, -1000, d.High) || d.High > 1000, api.ErrRange, "uniform: bounds"), when(numbers > 16, api.ErrRange, "uniform: outcomes"), when(notInteger, api.ErrType, "uniform: type"))
	case api.DrawTable:
		n := len(d.Probs)
		f = first(
			func() *found { return when(n > 16, api.ErrRange, "table: outcomes") },
			func() *found { return when(!isWithin(d.Low, -1000, 1000), api.ErrRange, "table: low") },
			func() *found { return when(!isWithin(d.Low+n-1, -1000, 1000), api.ErrRange, "table: high") },
			probs,
			func() *found {
				total := sum{}
				for _, s := range l {
					total = total.combined(s, 1)
				}
				c := total.constant()
				return when(c == nil || c.Cmp(one) != 0, api.ErrRange, "table: sum")
			},
			func() *found { return when(notInteger, api.ErrType, "table: type") })
	case api.DrawBinomial:
		f = first(
			func() *found { return when(d.High > 15, api.ErrRange, "binomial: outcomes") },
			probs,
			func() *found { return when(d.High*l[0].exponent() > 16, api.ErrLimit, "binomial: exponent") },
			func() *found { return when(notInteger, api.ErrType, "binomial: type") })
	case api.DrawGeometric:
		from := bigOf(d.From)
		f = cmp.Or(when(from.Sign() < 0 || from.Cmp(one) >= 0, api.ErrRange, "geometric: range"), when(k != api.TypeNat, api.ErrType, "geometric: type"))
	case api.DrawInterval:
		f = cmp.Or(when(bigOf(d.From).Cmp(bigOf(d.To)) >= 0, api.ErrRange, "interval: range"), when(k != api.TypeReal, api.ErrType, "interval: type"))
	case api.DrawBeta:
		f = cmp.Or(when(!isWithin(d.Low, 1, 6) || !isWithin(d.High, 1, 6), api.ErrRange, "beta: range"), when(k != api.TypeReal, api.ErrType, "beta: type"))
	case api.DrawNested:
		f = b.nested(d.Name, k)
	}
	return cmp.Or(f, b.note(l, "draw: parameter in a query"))
}

func (b *block) nested(name string, k int) *found {
	i := slices.IndexFunc(b.whole.Queries, func(q api.Func) bool { return q.Name == name })
	if i < 0 {
		return &found{api.ErrName, "posterior: no query"}
	}
	if b.place == "query" && i >= b.index {
		return &found{api.ErrName, "posterior: later query"}
	}
	q := b.whole.Queries[i]
	other := &block{vars: q.Vars}
	u, _ := other.variable(q.Result)
	return cmp.Or(when(u.Kind == api.TypeBool && k != api.TypeBool, api.ErrType, "posterior: bool"), when(u.Kind == api.TypeInt && k != api.TypeInt && k != api.TypeNat, api.ErrType, "posterior: int"))
}

func (b *block) call(s api.Stmt, target api.Type) *found {
	if b.place == "query" {
		return &found{api.ErrClass, "call: in a query"}
	}
	i := slices.IndexFunc(b.whole.Funcs, func(f api.Func) bool { return f.Name == s.Func })
	if i < 0 {
		return &found{api.ErrName, "call: no function"}
	}
	g := b.whole.Funcs[i]
	if len(g.Args) != len(s.Args) {
		return &found{api.ErrType, "call: number of arguments"}
	}
	for j, a := range s.Args {
		if f := b.value(a, g.Args[j].Type, "call: argument"); f != nil {
			return f
		}
	}
	other := &block{vars: slices.Concat(g.Args, g.Vars)}
	u, ok := other.variable(g.Result)
	if ok && !types.Equal(u, target) {
		return &found{api.ErrType, "call: result"}
	}
	if b.place == "func" {
		from := b.whole.Funcs[b.index].Name
		b.calls[from] = append(b.calls[from], g.Name)
	}
	return nil
}

func (b *block) statement(s api.Stmt) *found {
	var target api.Type
	if s.Kind == api.StAssign || s.Kind == api.StDraw || s.Kind == api.StCall {
		var ok bool
		if target, ok = b.variable(s.Name); !ok {
			return &found{api.ErrName, "statement: variable"}
		}
	}
	var f *found
	switch s.Kind {
	case api.StAssign:
		f = b.value(s.Expr, target, "assign")
	case api.StDraw:
		f = b.draw(s.Draw, target.Kind)
	case api.StCall:
		f = b.call(s, target)
	case api.StIf:
		f = b.truth(s.Expr, "if")
	case api.StWhile:
		f = cmp.Or(b.truth(s.Expr, "while"), when(b.place == "query", api.ErrClass, "while: in a query"))
		b.info.Loops = true
	case api.StRepeat:
		f = when(s.Int > 8, api.ErrLimit, "repeat")
	case api.StObserve:
		f = b.truth(s.Expr, "observe")
		b.info.Conditions++
	case api.StWeight:
		var l []sum
		if l, f = b.weights([]api.Expr{s.Expr}); f == nil {
			f = b.note(l, "weight: parameter in a query")
		}
		b.info.Conditions++
	}
	return first(func() *found { return f }, func() *found { return b.body(s.Then) }, func() *found { return b.body(s.Else) })
}

func (b *block) body(l []api.Stmt) *found {
	for _, s := range l {
		if f := b.statement(s); f != nil {
			return f
		}
	}
	return nil
}

// taken reports whether a name is one of the program, a function or a query.
func (b *block) taken(name string) bool {
	is := func(f api.Func) bool { return f.Name == name }
	return slices.Contains(b.whole.Params, name) || slices.ContainsFunc(b.whole.Funcs, is) || slices.ContainsFunc(b.whole.Queries, is)
}

// declare examines the variables l.
func (b *block) declare(l []api.Decl) *found {
	width := 0
	earlier := map[int]bool{}
	for _, d := range l {
		if b.taken(d.Name) {
			return &found{api.ErrName, "variable: name of the program"}
		}
		if _, ok := b.variable(d.Name); ok {
			return &found{api.ErrName, "variable: name of the block"}
		}
		b.vars = append(b.vars, d)
		if e := types.Validate(d.Type); e != api.OK {
			return &found{e, "variable: type"}
		}
		k := d.Type.Kind
		other := api.TypeNat + api.TypeReal - k
		if (k == api.TypeNat || k == api.TypeReal) && b.place != "program" {
			return &found{api.ErrClass, "variable: class in a block"}
		}
		if (k == api.TypeNat || k == api.TypeReal) && earlier[other] {
			return &found{api.ErrClass, "variable: class in the program"}
		}
		earlier[k] = true
		cells, _ := types.Cells(d.Type)
		width += len(cells)
	}
	return when(width > 64, api.ErrLimit, "variables: widths")
}

func (b *block) examine(g api.Func) *found {
	if b.place == "func" && len(g.Args) > 4 {
		return &found{api.ErrLimit, "function: parameters"}
	}
	if f := cmp.Or(b.declare(slices.Concat(g.Args, g.Vars))); f != nil {
		return f
	}
	if f := b.body(g.Body); f != nil {
		return f
	}
	u, ok := b.variable(g.Result)
	if !ok {
		return &found{api.ErrName, "result"}
	}
	if b.place != "query" {
		return nil
	}
	n, _ := types.Size(u)
	return cmp.Or(when(u.Kind != api.TypeBool && u.Kind != api.TypeInt, api.ErrClass, "result of a query: type"), when(n > 16, api.ErrClass, "result of a query: outcomes"))
}

// names examines the names of parameters, functions and queries.
func names(p api.Program) *found {
	if len(p.Params) > 3 {
		return &found{api.ErrLimit, "parameters: limit"}
	}
	for i, name := range p.Params {
		if slices.Contains(p.Params[:i], name) {
			return &found{api.ErrName, "parameters: name"}
		}
	}
	if len(p.Funcs) > 8 || len(p.Queries) > 8 {
		return &found{api.ErrLimit, "functions: limit"}
	}
	b := &block{whole: api.Program{Params: p.Params}}
	for _, f := range p.Funcs {
		if b.taken(f.Name) {
			return &found{api.ErrName, "functions: name"}
		}
		b.whole.Funcs = append(b.whole.Funcs, f)
	}
	for _, q := range p.Queries {
		if b.taken(q.Name) {
			return &found{api.ErrName, "queries: name"}
		}
		b.whole.Queries = append(b.whole.Queries, q)
	}
	return nil
}

// reaches reports whether a way of calls leads from one function to another.
func reaches(calls map[string][]string, from, to string, seen map[string]bool) bool {
	for _, next := range calls[from] {
		if next == to {
			return true
		}
		if !seen[next] {
			seen[next] = true
			if reaches(calls, next, to, seen) {
				return true
			}
		}
	}
	return false
}

// checkByReference returns what Check must return.
func checkByReference(p api.Program) (api.Info, *found) {
	if _, e := printer.Print(p); e == api.ErrForm {
		return api.Info{}, &found{e, "form"}
	}
	if f := names(p); f != nil {
		return api.Info{}, f
	}
	info, calls := api.Info{Class: api.ClassFinite}, map[string][]string{}
	for i, g := range p.Funcs {
		b := &block{whole: p, place: "func", index: i, info: &info, calls: calls}
		if f := b.examine(g); f != nil {
			return api.Info{}, f
		}
	}
	for i, q := range p.Queries {
		b := &block{whole: p, place: "query", index: i, info: &info, calls: calls}
		if f := b.examine(q); f != nil {
			return api.Info{}, f
		}
	}
	b := &block{whole: p, place: "program", info: &info, calls: calls}
	if f := b.examine(api.Func{Vars: p.Vars, Body: p.Body, Result: p.Result}); f != nil {
		return api.Info{}, f
	}
	for _, d := range p.Vars {
		class, _ := types.Class(d.Type)
		info.Class = max(info.Class, class)
	}
	for _, g := range p.Funcs {
		info.Loops = info.Loops || reaches(calls, g.Name, g.Name, map[string]bool{})
	}
	slices.Sort(info.Params)
	return info, nil
}
