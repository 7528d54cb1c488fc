package checker_test

import (
	"slices"
	"strconv"
	"strings"
	"testing"

	"exactppl/api"
	"exactppl/checker"
)

// P11.2: the shapes of expressions, as far as programs show them

// samples are the variables of the expressions, and one for each shape of a list.
const samples = `param p; func f() { var v: bool; return v; } query q { var v: bool; return v; }
var b: bool; var i: int[0, 9]; var j: int[-3, -3]; var x: real; var y: real; var t: (bool, int[0, 9]); var u: (list[3] bool, (bool, bool)); var l: list[3] int[0, 9]; var m: list[2] bool;
var n1: list[1] int[5, 5]; var n2: list[2] int[5, 5]; var n3: list[3] int[5, 5]; var n4: list[4] int[5, 5]; var b1: list[1] bool; var b2: list[2] bool; var b3: list[3] bool; var b4: list[4] bool; `

// prober finds the shapes of expressions.
type prober struct{ samples api.Program }

func newProber(t *testing.T) prober { return prober{parse(t, samples+"return b;")} }

// assign returns the error of an assignment.
func (p prober) assign(name string, e api.Expr) api.Errno {
	program := p.samples
	program.Body = []api.Stmt{{Kind: api.StAssign, Name: name, Expr: e}}
	_, code := checker.Check(program)
	return code
}

func (p prober) assigns(name string, e api.Expr) bool { return p.assign(name, e) == api.OK }

// shape returns the shape of e as a text, or its error.
func (p prober) shape(e api.Expr) string {
	length := api.Expr{Op: api.ExLen, Args: []api.Expr{e}}
	switch {
	case p.assigns("b", e):
		return "bool"
	case p.assigns("i", e) && p.assigns("x", e):
		return "number"
	case p.assigns("x", e):
		return "real"
	case p.assigns("i", length):
		return p.list(e)
	}
	var l []string
	for field := (api.Expr{Op: api.ExField, Args: []api.Expr{e}}); p.exists(field); field.Int++ {
		l = append(l, p.shape(field))
	}
	if len(l) > 0 {
		return "(" + strings.Join(l, ", ") + ")"
	}
	return "error " + strconv.Itoa(int(p.assign("b", e)))
}

// exists reports whether e, which is not real, has a shape: it then fits itself.
func (p prober) exists(e api.Expr) bool {
	return p.assigns("b", api.Expr{Op: api.ExEq, Args: []api.Expr{e, e}})
}

// list returns the shape of a list.
func (p prober) list(e api.Expr) string {
	element := p.shape(api.Expr{Op: api.ExAt, Args: []api.Expr{e, {Op: api.ExInt}}})
	for k := range 4 {
		number, truth := p.assigns("n"+strconv.Itoa(k+1), e), p.assigns("b"+strconv.Itoa(k+1), e)
		switch {
		case number && truth && element == "error 6":
			return "list"
		case number && !truth && element == "number", truth && !number && element == "bool":
			return "list[" + strconv.Itoa(k+1) + "] " + element
		}
	}
	return "another list of " + element
}

// exprOf returns the expression with the text s.
func exprOf(t *testing.T, s string) api.Expr {
	t.Helper()
	return parse(t, "observe "+s+"; return x;").Body[0].Expr
}

// checkShapes checks the shapes of texts that stand in front of " -> ".
func checkShapes(t *testing.T, l ...string) {
	t.Helper()
	p := newProber(t)
	for _, s := range l {
		text, want, _ := strings.Cut(s, " -> ")
		if got := p.shape(exprOf(t, text)); got != want {
			t.Errorf("%s has the shape %s, not %s", text, got, want)
		}
	}
}

// The errors as texts.
const (
	errName    = "error 5"
	errType    = "error 6"
	errMeasure = "error 7"
)

func TestLeaves(t *testing.T) {
	checkShapes(t, "true -> bool", "false -> bool", "0 -> number", "1000000 -> number", "1/2 -> real", "2/1 -> real", "0/5 -> real",
		"b -> bool", "i -> number", "j -> number", "x -> real", "t -> (bool, number)", "u -> (list[3] bool, (bool, bool))", "l -> list[3] number", "m -> list[2] bool", "b4 -> list[4] bool",
		"z -> "+errName, "p -> "+errName, "f -> "+errName, "q -> "+errName, "v -> "+errName)
	p := parse(t, "var n: nat; var i: int[0, 1]; var b: bool; i := n; n := i; n := i * n - 1; b := n == i && n < i && (n, b) == (i, b); return n;")
	checkError(t, p, api.OK)
}

func TestTruth(t *testing.T) {
	checkShapes(t, "!b -> bool", "!(i < j) -> bool", "!i -> "+errType, "!x -> "+errType, "!t -> "+errType, "![] -> "+errType, "!z -> "+errName,
		"b && true -> bool", "b && i -> "+errType, "i && b -> "+errType, "x && b -> "+errType, "t && t -> "+errType, "b && z -> "+errName, "i && z -> "+errName, "z && i -> "+errName,
		"b || i == j -> bool", "b || 0 -> "+errType, "1 || b -> "+errType, "b || [] -> "+errType,
		"i < j -> bool", "i <= 1/2 -> bool", "x < y -> bool", "x <= i -> bool", "1/2 < 1/3 -> bool", "b < i -> "+errType, "x < b -> "+errType, "i <= b -> "+errType, "l < l -> "+errType, "t <= t -> "+errType, "i < z -> "+errName, "b < z -> "+errName)
}

func TestEquality(t *testing.T) {
	checkShapes(t, "b == true -> bool", "i == j -> bool", "i == 7 -> bool", "b == i -> "+errType, "i == b -> "+errType, "b == x -> "+errType, "x == b -> "+errType, "x == t -> "+errType, "l == x -> "+errType,
		"x == y -> "+errMeasure, "x == i -> "+errMeasure, "i == x -> "+errMeasure, "1/2 == i -> "+errMeasure, "2/1 == 2 -> "+errMeasure, "x != y -> "+errMeasure, "x + i == 0 -> "+errMeasure, "i == z -> "+errName, "x == z -> "+errName,
		"t == t -> bool", "t == (b, 1) -> bool", "t == (1, b) -> "+errType, "t == (b, 1, 1) -> "+errType, "t == b -> "+errType, "(1, 2) == (i, j) -> bool", "(b, t) == (b, (b, 1)) -> bool", "(b, t) == (b, (b, b)) -> "+errType, "(b, t) == (b, b) -> "+errType,
		"l == l -> bool", "l == [] -> bool", "[] == l -> bool", "[] == [] -> bool", "l == [1, 2, 3, 4] -> bool", "m == b4 -> bool", "l == m -> "+errType, "l == [b] -> "+errType, "[1] == [b] -> "+errType, "l == t -> "+errType, "[] == 1 -> "+errType, "[] == b -> "+errType,
		"(l, b) == ([], b) -> bool", "([], []) == (m, l) -> bool", "(l, b) == (m, b) -> "+errType, "u == ([], (b, b)) -> bool", "u == (l, (b, b)) -> "+errType)
}

func TestArithmetic(t *testing.T) {
	checkShapes(t, "-i -> number", "-x -> real", "-1/2 -> real", "-b -> "+errType, "-t -> "+errType, "-[] -> "+errType, "-z -> "+errName,
		"i + j -> number", "i - 1 -> number", "x + i -> real", "i + x -> real", "x - y -> real", "1/2 - 1/2 -> real", "b + i -> "+errType, "i + b -> "+errType, "x - b -> "+errType, "b - x -> "+errType, "l + l -> "+errType, "t + 1 -> "+errType, "b + z -> "+errName,
		"i * j -> number", "i * i * i -> number", "2 * x -> real", "x * 2 -> real", "1/2 * i -> real", "i * 1/2 -> real", "1/2 * 1/2 -> real", "1/2 * 3 -> real", "(1 + 2 * 3) * -x -> real",
		"x * y -> "+errType, "x * i -> "+errType, "i * x -> "+errType, "x * x -> "+errType, "x * (i - i) -> "+errType, "x * len(l) -> "+errType, "x * len([]) -> real", "x * len([1]) -> real", "x * len([b]) -> "+errType, "(1/2 * i) * j -> "+errType, "(1/2 * 3) * j -> real", "1/2 * (i * j) -> real", "x * (true ? 1 : 2) -> real", "x * (b ? 1 : 2) -> "+errType, "x * [1, 2][0] -> real", "x * [1, 2][i] -> "+errType, "x * (1, b).0 -> "+errType,
		"b * 1 -> "+errType, "1 * b -> "+errType, "x * b -> "+errType, "x * true -> "+errType, "l * 2 -> "+errType, "b * z -> "+errName, "x * z -> "+errName, "i * 2 * x -> "+errType, "2 * 3 * x * 4 -> real")
}

func TestConditions(t *testing.T) {
	checkShapes(t, "b ? 1 : j -> number", "b ? b : i < j -> bool", "b ? x : y -> "+errType, "b ? x : 1 -> "+errType, "b ? 1 : x -> "+errType, "b ? 1/2 : 1/2 -> "+errType, "i ? 1 : 2 -> "+errType, "x ? 1 : 2 -> "+errType, "b ? b : 1 -> "+errType, "b ? 1 : b -> "+errType,
		"b ? t : (b, 1) -> (bool, number)", "b ? t : (b, b) -> "+errType, "b ? t : (b, 1, b) -> "+errType, "b ? t : u -> "+errType,
		"b ? l : [] -> list[3] number", "b ? [] : l -> list[3] number", "b ? [] : [] -> list", "b ? [1] : [1, 2, 3, 4] -> list[4] number", "b ? [1, 2] : [1] -> list[2] number", "b ? m : [b, b, b] -> list[3] bool", "b ? l : m -> "+errType, "b ? l : 1 -> "+errType,
		"b ? (l, []) : ([], m) -> (list[3] number, list[2] bool)", "b ? (1, ([b], b)) : (2, ([b, b, b], b)) -> (number, (list[3] bool, bool))", "b ? u : ([b, b, b, b], (b, b)) -> (list[4] bool, (bool, bool))", "b ? (l, l) : (l, m) -> "+errType,
		"b ? b ? l : [] : [1, 2, 3, 4] -> list[4] number", "b ? [] : b ? [] : m -> list[2] bool", "z ? y : w -> "+errName, "i ? z : 1 -> "+errName, "b ? i : z -> "+errName)
}

func TestTuples(t *testing.T) {
	checkShapes(t, "(b, i) -> (bool, number)", "(b, i, b, i, b, 1) -> (bool, number, bool, number, bool, number)", "(l, t, []) -> (list[3] number, (bool, number), list)", "(b, x) -> "+errType, "(1/2, b) -> "+errType, "(b, (b, x)) -> "+errType, "(x, z) -> "+errName, "(b, z) -> "+errName,
		"t.0 -> bool", "t.1 -> number", "t.2 -> "+errType, "t.1000000 -> "+errType, "u.0 -> list[3] bool", "u.1.1 -> bool", "u.1.2 -> "+errType, "(1, b, 1, b, l).4 -> list[3] number", "(1, b, 1, b, l).5 -> "+errType, "b.0 -> "+errType, "l.0 -> "+errType, "[].0 -> "+errType, "x.0 -> "+errType, "z.0 -> "+errName)
}

func TestLists(t *testing.T) {
	checkShapes(t, "[] -> list", "[1] -> list[1] number", "[b, true] -> list[2] bool", "[1, 2, 3, i] -> list[4] number", "[1, 2, 3, 4, 5] -> "+errType, "[b, b, b, b, b] -> "+errType, "[1, b] -> "+errType, "[b, b, 1] -> "+errType, "[1/2] -> "+errType, "[x] -> "+errType, "[1, x] -> "+errType, "[t] -> "+errType, "[[]] -> "+errType, "[l] -> "+errType, "[1, 2, 3, 4, 5, z] -> "+errName, "[x, z] -> "+errName,
		"push(l, 1) -> list[3] number", "push(m, b) -> list[2] bool", "push([1], 2) -> list[1] number", "push(push(m, b), b) -> list[2] bool", "push([], 1) -> "+errType, "push([], b) -> "+errType, "push(l, b) -> "+errType, "push(m, 1) -> "+errType, "push(l, x) -> "+errType, "push(l, 1/2) -> "+errType, "push(l, []) -> "+errType, "push(l, l) -> "+errType, "push(t, b) -> "+errType, "push(1, 1) -> "+errType, "push(b ? [] : l, 1) -> list[3] number", "push(1, z) -> "+errName, "push(z, 1) -> "+errName,
		"len(l) -> number", "len([]) -> number", "len(b ? [] : []) -> number", "len(t) -> "+errType, "len(i) -> "+errType, "len(x) -> "+errType, "len(z) -> "+errName,
		"l[0] -> number", "m[i] -> bool", "[1, 2][i + j] -> number", "u.0[1000000] -> bool", "[][0] -> "+errType, "(b ? [] : [])[0] -> "+errType, "(b ? [] : m)[0] -> bool", "l[b] -> "+errType, "l[x] -> "+errType, "l[1/2] -> "+errType, "l[[]] -> "+errType, "t[0] -> "+errType, "i[0] -> "+errType, "b[z] -> "+errName, "l[z] -> "+errName)
}

// Arguments are examined in order, and before the operator.
func TestOrderOfArguments(t *testing.T) {
	wrong := []string{"z -> " + errName, "(!1) -> " + errType, "(x == y) -> " + errMeasure}
	for _, s := range wrong {
		text, code, _ := strings.Cut(s, " -> ")
		for _, pattern := range []string{"!@", "-@", "len(@)", "@.0", "@ && #", "1 && @", "@ || #", "1 || @", "@ == #", "x == @", "@ < #", "b < @", "@ <= #", "b <= @", "@ + #", "b + @", "@ - #", "b - @", "@ * #", "b * @", "@ ? # : #", "1 ? @ : #", "1 ? x : @", "(@, #)", "(x, @)", "(x, x, x, @, #)", "[@, #]", "[x, @]", "[1, b, t, l, x, @]", "push(@, #)", "push(1, @)", "@[#]", "1[@]"} {
			for _, other := range wrong {
				behind, _, _ := strings.Cut(other, " -> ")
				checkShapes(t, strings.NewReplacer("@", text, "#", behind).Replace(pattern)+" -> "+code)
			}
		}
	}
}

// Every operator with operands of every shape, against the reference.
func TestAllOperands(t *testing.T) {
	p := newProber(t)
	texts := []string{"b", "i", "2", "x", "1/2", "t", "u", "(1, b, l)", "l", "m", "[]", "[i, i]", "[b]", "z"}
	var l []api.Expr
	for _, s := range texts {
		l = append(l, exprOf(t, s))
	}
	tried := 0
	try := func(op int, operands ...api.Expr) {
		for k := range 4 {
			if op != api.ExField && k > 0 {
				break
			}
			e := api.Expr{Op: op, Int: k, Args: operands}
			b := &block{whole: p.samples, vars: p.samples.Vars}
			s, f := b.shape(e)
			if got, want := p.shape(e), textOfShape(s, f); got != want {
				t.Errorf("%v has the shape %s, not %s", show(e), got, want)
			}
			tried++
		}
	}
	for _, x := range l {
		for _, op := range []int{api.ExNot, api.ExNeg, api.ExLen, api.ExField, api.ExList} {
			try(op, x)
		}
		for _, y := range l {
			for _, op := range []int{api.ExAnd, api.ExOr, api.ExEq, api.ExLt, api.ExLe, api.ExAdd, api.ExSub, api.ExMul, api.ExTuple, api.ExList, api.ExPush, api.ExAt} {
				try(op, x, y)
			}
			try(api.ExCond, l[0], x, y)
			try(api.ExCond, x, y, y)
			try(api.ExTuple, x, y, l[0])
			try(api.ExList, x, x, x, y)
			try(api.ExList, x, x, x, x, y)
		}
	}
	if tried < 3000 {
		t.Error("only", tried, "expressions")
	}
}

// textOfShape writes a shape of the reference as the prober does.
func textOfShape(s api.Type, f *found) string {
	switch {
	case f != nil:
		return "error " + strconv.Itoa(int(f.code))
	case s.Kind == api.TypeTuple:
		var l []string
		for _, element := range s.Elems {
			l = append(l, textOfShape(element, nil))
		}
		return "(" + strings.Join(l, ", ") + ")"
	case s.Kind == api.TypeList && len(s.Elems) == 0:
		return "list"
	case s.Kind == api.TypeList:
		return "list[" + strconv.Itoa(s.Max) + "] " + textOfShape(s.Elems[0], nil)
	}
	return []string{"", "bool", "", "number", "real"}[s.Kind]
}

// P11.3: what is assignable to which type

func TestAssignability(t *testing.T) {
	p := parse(t, "var b: bool; var i: int[0, 3]; var j: int[-9, -9]; var x: real; var l: list[3] int[0, 1]; var m: list[2] bool; return b;")
	for name, row := range map[string]string{
		"bool":                         "b true i<j l==[] m[0]",
		"int[5, 5]":                    "i j 0 1000000 i*j len([]) l[0]",
		"real":                         "i j 0 1000000 i*j len([]) l[0] x 1/2 x+i",
		"(bool, int[5, 5])":            "(b,0) (true,i)",
		"(int[5, 5], bool)":            "(0,b)",
		"(bool, bool, int[0, 0])":      "(b,b,9)",
		"(bool, (list[2] bool, bool))": "(b,(m,b)) (b,([],b)) (b,([b],b))",
		"(list[1] int[0, 0], bool)":    "([],b) ([7],b)",
		"list[1] int[5, 5]":            "[] [9] push([9],i)",
		"list[2] int[5, 5]":            "[] [9] push([9],i) [0,1]",
		"list[3] int[5, 5]":            "[] [9] push([9],i) [0,1] l b?l:[1] b?[]:l",
		"list[4] int[0, 0]":            "[] [9] push([9],i) [0,1] l b?l:[1] b?[]:l [1,2,3,4] b?l:[1,2,3,4]",
		"list[1] bool":                 "[] [b]",
		"list[2] bool":                 "[] [b] m b?m:[]",
		"list[3] bool":                 "[] [b] m b?m:[] b?m:[b,b,b]",
	} {
		all := strings.Fields("b true i<j l==[] m[0] i j 0 1000000 i*j len([]) l[0] x 1/2 x+i (b,0) (true,i) (0,b) (b,b,9) (b,b) (b,l) (b,(m,b)) (b,([],b)) (b,([b],b)) (b,([b,b,b],b)) (b,([1],b)) ([],b) ([7],b) ([7,7],b) ([b],b) [] [9] push([9],i) [0,1] l b?l:[1] b?[]:l [1,2,3,4] b?l:[1,2,3,4] [b] m b?m:[] b?m:[b,b,b]")
		right := strings.Fields(row)
		for _, s := range all {
			want := api.ErrType
			if slices.Contains(right, s) {
				want = api.OK
			}
			variables := "var b: bool; var i: int[0, 3]; var j: int[-9, -9]; var l: list[3] int[0, 1]; var m: list[2] bool; var v: " + name + "; "
			if strings.Contains(s, "x") {
				variables += "var x: real; "
			}
			checkTexts(t, variables, verdicts{{"v := " + s + "; ", want}}, "return b;")
			if name != "real" && !strings.Contains(s, "x") {
				checkTexts(t, "func f(a: "+name+") { var r: bool; return r; } "+variables, verdicts{{"b := f(" + s + "); ", want}}, "return b;")
			}
			right = slices.DeleteFunc(right, func(u string) bool { return u == s })
		}
		if len(right) > 0 {
			t.Error("not tried:", right)
		}
	}
	checkError(t, p, api.OK)
	for _, v := range (verdicts{{"i", api.OK}, {"0", api.OK}, {"b", api.ErrType}, {"1/2", api.ErrType}, {"[]", api.ErrType}}) {
		checkTexts(t, "var n: nat; var i: int[0, 3]; var b: bool; ", verdicts{{"n := " + v.text + "; ", v.want}}, "return b;")
	}
}
