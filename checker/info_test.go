package checker_test

import (
	"slices"
	"strings"
	"testing"

	"exactppl/api"
	"exactppl/checker"
)

// P11.6: the Info

// checkInfo checks the Info of a text.
func checkInfo(t *testing.T, s string, want api.Info) {
	t.Helper()
	if info, e := checker.Check(parse(t, s)); e != api.OK || show(info) != show(want) {
		t.Errorf("the Info of %.500q is %+v with the error %d, not %+v", s, info, e, want)
	}
}

func TestClassOfProgram(t *testing.T) {
	for variables, class := range map[string]int{
		"": api.ClassFinite, "var y: (bool, list[2] int[0, 5]); ": api.ClassFinite, "var y: nat; ": api.ClassCountable, "var y: real; ": api.ClassContinuous, "var y: nat; var z: nat; ": api.ClassCountable, "var y: bool; var z: real; var v: int[0, 1]; ": api.ClassContinuous,
		"func f() { var v: bool; return v; } query q { var v: bool; return v; } ": api.ClassFinite,
	} {
		checkInfo(t, variables+"var x: bool; return x;", api.Info{Class: class})
	}
}

func TestLoops(t *testing.T) {
	checkLoops := func(s string, want bool) {
		t.Helper()
		checkInfo(t, s, api.Info{Class: api.ClassFinite, Loops: want})
	}
	for _, body := range []string{"while x { }", "if x { while x { } }", "if x { } else { while x { } }", "repeat 0 { while x { } }", "repeat 3 { if x { x := x; while false { x := x; } } }", "while x { while x { } }"} {
		checkLoops("var x: bool; "+body+" return x;", true)
		checkLoops("func f() { var x: bool; "+body+" return x; } "+truth, true)
		checkLoops("func g(a: bool) { return a; } func f() { var x: bool; "+body+" x := g(x); return x; } "+truth, true)
	}
	for _, body := range []string{"", "repeat 3 { x := x; }", "if x { x := !x; }"} {
		checkLoops("var x: bool; "+body+" return x;", false)
	}
	// calls names for each function the functions that it calls
	withCalls := func(calls string) string {
		s := ""
		for _, f := range strings.Fields(calls) {
			s += "func " + f[:1] + "() { var v: bool; "
			for _, g := range f[1:] {
				s += "if v { v := " + string(g) + "(); } "
			}
			s += "return v; } "
		}
		return s
	}
	for calls, want := range map[string]bool{
		"a": false, "aa": true, "ab b": false, "ab ba": true, "abb b": false, "abc bc c": false, "ab bc ca": true, "ab bc cb": true, "ab bc cc": true, "a ba cba": false, "ab b cb da": false, "abcd bcd cd d": false, "a ba cb dc": false, "a ba cb db eb fb gb hb": false,
		"ab bc cd de ef fg gh ha": true, "ab bc cd de ef fg gh h": false, "a ba cb dc ed fe gf hg": false, "ah ba cb dc ed fe gf hg": true, "ah ba cb dc ed fe gf h": false, "a b c d e f gh hg": true, "a b c d e f g hh": true, "ha ab b": false, "ha ah": true,
	} {
		checkLoops(withCalls(calls)+truth, want)
		checkLoops(withCalls(calls)+"var x: bool; x := "+calls[:1]+"(); return x;", want)
	}
	checkLoops("func a() { var v: bool; repeat 2 { if v { } else { v := a(); } } return v; } "+truth, true)
}

func TestParamsOfInfo(t *testing.T) {
	const before = "param p; param q; param r; "
	const inside = "func f(a: bool) { var i: int[0, 9]; # return a; } "
	for s, want := range map[string][]int{
		"": nil, "weight p;": {0}, "weight q;": {1}, "weight r;": {2}, "weight r; weight p;": {0, 2}, "weight q; weight q; weight q;": {1}, "weight p * q * r;": {0, 1, 2}, "weight r - q;": {1, 2}, "weight 1/2;": nil,
		"weight p - p;": nil, "weight 0 * q;": nil, "weight p * q - q * p + r;": {2}, "weight (p + q) * (p - q) + q * q;": {0}, "weight 1 + p - p;": nil,
		"a ~ flip(q);": {1}, "a ~ flip(q - q);": nil, "i ~ table(0; q, 1 - q);": {1}, "i ~ table(0; 1/2, r, 1/2 - r);": {2}, "i ~ table(0; p - p, 1);": nil, "i ~ binomial(2, r);": {2}, "i ~ binomial(0, p);": {0}, "i ~ uniform(0, 9);": nil,
		"if a { a ~ flip(r); } else { repeat 0 { weight p; } }": {0, 2}, "while a { weight q; }": {1},
	} {
		conditions := strings.Count(s, "weight")
		info := api.Info{Class: api.ClassFinite, Loops: strings.Contains(s, "while"), Params: want, Conditions: conditions}
		checkInfo(t, before+"var a: bool; var i: int[0, 9]; "+s+" return a;", info)
		checkInfo(t, before+strings.Replace(inside, "#", s, 1)+truth, info)
		checkInfo(t, before+strings.Replace(inside, "#", s, 1)+"var a: bool; a ~ flip(1/2); return a;", info)
		info.Conditions++
		if !slices.Contains(info.Params, 0) {
			info.Params = slices.Insert(slices.Clone(info.Params), 0, 0)
		}
		checkInfo(t, before+strings.Replace(inside, "#", s, 1)+"var a: bool; weight p; return a;", info)
	}
}

func TestConditionsOfInfo(t *testing.T) {
	const v = "var a: bool; "
	for s, want := range map[string]int{
		"": 0, "observe a;": 1, "weight 1/2;": 1, "observe a; weight 1/2; observe a;": 3, "repeat 8 { observe a; }": 1, "repeat 0 { weight 0; }": 1, "if a { observe a; } else { observe a; weight 1; }": 3, "if a { if a { observe a; } observe a; } observe a;": 3, "repeat 2 { repeat 3 { observe a; observe a; } }": 2,
		"a := a; a ~ flip(1/2);": 0,
	} {
		for _, text := range []string{
			v + s + "return a;", "func f() { " + v + s + "return a; } " + truth, "query f { " + v + s + "return a; } " + truth,
		} {
			checkInfo(t, text, api.Info{Class: api.ClassFinite, Conditions: want})
		}
		checkInfo(t, "func f() { "+v+s+"return a; } func g() { "+v+s+"return a; } query k { "+v+s+"return a; } query l { "+v+s+"return a; } "+v+s+"a := f(); a := f(); a ~ posterior k; return a;", api.Info{Class: api.ClassFinite, Conditions: 5 * want})
	}
	checkInfo(t, v+"while a { observe a; weight 1/2; } return a;", api.Info{Class: api.ClassFinite, Loops: true, Conditions: 2})
}

// The examples of the document.
func TestExamples(t *testing.T) {
	checkTexts(t, "", verdicts{{"var x: real; x ~ interval(0, 1); observe x == 1/2; return x;", api.ErrMeasure}}, "")
	finite := api.Info{Class: api.ClassFinite}
	for s, want := range map[string]api.Info{
		"var x: bool; var y: bool; x ~ flip(1/3); y ~ flip(1/2); observe x || y; return x;":                                                     {Class: api.ClassFinite, Conditions: 1},
		"param p; var x: bool; x ~ flip(p); observe x || false; return x;":                                                                      {Class: api.ClassFinite, Params: []int{0}, Conditions: 1},
		"param p; var x: bool; var y: bool; x ~ flip(p); y ~ flip(p); observe x || y; return x;":                                                {Class: api.ClassFinite, Params: []int{0}, Conditions: 1},
		"var n: nat; n ~ geometric(1/2); observe n < 2; return n;":                                                                              {Class: api.ClassCountable, Conditions: 1},
		"var x: real; var y: real; var b: bool; x ~ interval(0, 1); y ~ interval(0, 2); b := x < y; return b;":                                  {Class: api.ClassContinuous},
		"var b: bool; while !b { b ~ flip(1/2); } return b;":                                                                                    {Class: api.ClassFinite, Loops: true},
		"func f(k: int[0, 3]) { var r: bool; r ~ flip(1/2); if 0 < k { if r { r := f(k - 1); } } return r; } var b: bool; b := f(2); return b;": {Class: api.ClassFinite, Loops: true},
		"query q { var c: bool; c ~ flip(1/4); return c; } var b: bool; b ~ posterior q; return b;":                                             finite,
		"var l: list[2] bool; l := push(push([true], false), true); return l;":                                                                  finite,
		"var x: bool; var y: bool; x ~ flip(1/2); y ~ flip(1/3); observe x; return x;":                                                          {Class: api.ClassFinite, Conditions: 1},
	} {
		checkInfo(t, s, want)
	}
}
