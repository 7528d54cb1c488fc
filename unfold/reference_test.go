package unfold_test

import (
	"fmt"
	"regexp"
	"strings"

	"exactppl/api"
	"exactppl/core"
	"exactppl/polynomial"
	"exactppl/rational"
)

// The definitions of P14.1 and P14.2: the unfolding as a text in which cells have names, and its extent, which is counted without making it.

// operators are the signs of the operators from FoNot to FoCond.
var operators = strings.Fields("! & | = < <= + - * ?")

// textOfForm writes a form in which the variables have these names.
func textOfForm(f api.Form, name func(i int) string) string {
	switch f.Op {
	case api.FoInt:
		return fmt.Sprint(f.Int)
	case api.FoRat:
		return rational.Format(f.Rat)
	case api.FoVar:
		return name(f.Int)
	}
	s := "(" + operators[f.Op-api.FoNot]
	for _, g := range f.Args {
		s += " " + textOfForm(g, name)
	}
	return s + ")"
}

func textOfDist(d api.Dist) string {
	switch d.Kind {
	case api.DistGeometric:
		return "geometric " + rational.Format(d.From)
	case api.DistInterval:
		return "interval " + rational.Format(d.From) + " " + rational.Format(d.To)
	case api.DistBeta:
		return fmt.Sprint("beta ", d.Low, " ", d.High)
	}
	weights := each(d.Weights, func(p api.Poly) string {
		s, _ := polynomial.Format(p, []string{"p", "q", "r"})
		return s
	})
	return fmt.Sprint("from ", d.Low, ": ", weights)
}

func textOfSet(outs, args []string) string { return fmt.Sprint("set ", outs, " ", args, "; ") }

// textOf writes straight commands with their sites. Fields that a command does not use are written, too, if they are not zero.
func textOf(l []api.Cmd) string {
	name := func(i int) string { return fmt.Sprint("v", i) }
	form := func(f api.Form) string { return textOfForm(f, name) }
	s := ""
	for _, c := range l {
		switch c.Kind {
		case api.CmdSet:
			s += textOfSet(each(c.Outs, name), each(c.Args, form))
			c.Outs, c.Args = nil, nil
		case api.CmdDraw:
			s += fmt.Sprint("draw@", c.Site, " ", name(c.Var), " ", textOfDist(c.Dist), "; ")
			c.Site, c.Var, c.Dist = 0, 0, api.Dist{}
		case api.CmdIf:
			s += "if " + form(c.Form) + " {" + textOf(c.Then) + "} {" + textOf(c.Else) + "} "
			c.Form, c.Then, c.Else = api.Form{}, nil, nil
		case api.CmdObserve:
			s += "observe " + form(c.Form) + "; "
			c.Form = api.Form{}
		case api.CmdCut:
			s += "cut; "
		default:
			s += "? "
		}
		if !same(c, api.Cmd{Kind: c.Kind}) {
			s += show(c)
		}
	}
	return s
}

// reference unfolds m by the definition.
type reference struct {
	m api.Module
	k int
}

// frame is a procedure at a depth, or {-1, 0} for the body of the module.
type frame struct{ proc, depth int }

var top = frame{-1, 0}

func (r reference) body(f frame) []api.Cmd {
	if f == top {
		return r.m.Body
	}
	return r.m.Procs[f.proc].Body
}

func (r reference) cells(f frame) []api.Cell {
	if f == top {
		return r.m.Cells
	}
	return r.m.Procs[f.proc].Cells
}

// nameIn returns the names of the variables of a frame.
func nameIn(f frame) func(i int) string {
	return func(i int) string { return fmt.Sprintf("<%d %d %d>", f.proc, f.depth, i) }
}

// text writes U(l, d) for a list in a frame of the depth d, with names in the place of cells and "@" in the place of sites.
func (r reference) text(l []api.Cmd, f frame) string {
	name := nameIn(f)
	form := func(g api.Form) string { return textOfForm(g, name) }
	s := ""
	for _, c := range l {
		switch c.Kind {
		case api.CmdSet:
			s += textOfSet(each(c.Outs, name), each(c.Args, form))
		case api.CmdDraw:
			s += "draw@ " + name(c.Var) + " " + textOfDist(c.Dist) + "; "
		case api.CmdIf:
			s += "if " + form(c.Form) + " {" + r.text(c.Then, f) + "} {" + r.text(c.Else, f) + "} "
		case api.CmdObserve:
			s += "observe " + form(c.Form) + "; "
		case api.CmdCut:
			s += "cut; "
		case api.CmdWhile:
			start, w := "if "+form(c.Form)+" {", "cut; } {} "
			body := r.text(c.Then, f)
			for range r.k {
				w = body + start + w + "} {} "
			}
			s += start + w
		case api.CmdCall:
			if f.depth == r.k {
				s += "cut; "
				break
			}
			s += r.textOfCall(c, each(c.Outs, name), each(c.Args, form), frame{c.Var, f.depth + 1})
		}
	}
	return s
}

// textOfCall writes a call whose variables and forms have been written.
func (r reference) textOfCall(c api.Cmd, outs, args []string, inner frame) string {
	p := r.m.Procs[c.Var]
	name := nameIn(inner)
	var params, others, zeros, results []string
	for i := range p.Cells {
		if i < p.Args {
			params = append(params, name(i))
		} else {
			others, zeros = append(others, name(i)), append(zeros, "0")
		}
	}
	for _, out := range p.Outs {
		results = append(results, name(out))
	}
	s := ""
	if len(args) > 0 {
		s += textOfSet(params, args)
	}
	if len(others) > 0 {
		s += textOfSet(others, zeros)
	}
	return s + r.text(p.Body, inner) + textOfSet(outs, results)
}

var blank = regexp.MustCompile(`<-?\d+ \d+ \d+>|draw@`)

// unfolded returns the body of the unfolding as textOf writes it, and the cells.
func (r reference) unfolded() (string, []api.Cell) {
	cells := append([]api.Cell(nil), r.m.Cells...)
	first := map[frame]int{top: 0}
	sites := 0
	return blank.ReplaceAllStringFunc(r.text(r.m.Body, top), func(s string) string {
		if s == "draw@" {
			sites++
			return fmt.Sprint(s, sites-1)
		}
		var f frame
		var i int
		fmt.Sscanf(s, "<%d %d %d>", &f.proc, &f.depth, &i)
		if _, ok := first[f]; !ok {
			first[f] = len(cells)
			cells = append(cells, r.cells(f)...)
		}
		return fmt.Sprint("v", first[f]+i)
	}), cells
}

// extent is what a list of commands takes of the limits.
type extent struct{ commands, draws, forms, depth int }

// much is more than all limits.
const much = 1 << 40

// plus returns the extent of two lists, one behind the other.
func (x extent) plus(y extent) extent {
	return extent{min(x.commands+y.commands, much), min(x.draws+y.draws, much), min(x.forms+y.forms, much), max(x.depth, y.depth)}
}

// inside returns the extent of a command with a form of this size that contains the list.
func (x extent) inside(size int) extent {
	return extent{1, 0, size, 1}.plus(extent{x.commands, x.draws, x.forms, x.depth + 1})
}

func sizeOf(l ...api.Form) int {
	size := 0
	for _, f := range l {
		size += 1 + sizeOf(f.Args...)
	}
	return size
}

// extents returns the extent of U(l, d) in a frame of the depth d. It keeps the extents of frames, since there may be very many calls.
func (r reference) extents(l []api.Cmd, f frame, known map[frame]extent) extent {
	var all extent
	for _, c := range l {
		one := extent{1, 0, 0, 1}
		switch c.Kind {
		case api.CmdSet:
			one.forms = sizeOf(c.Args...)
		case api.CmdDraw:
			one.draws = 1
		case api.CmdObserve:
			one.forms = sizeOf(c.Form)
		case api.CmdIf:
			one = r.extents(c.Then, f, known).plus(r.extents(c.Else, f, known)).inside(sizeOf(c.Form))
		case api.CmdWhile:
			size, body := sizeOf(c.Form), r.extents(c.Then, f, known)
			one = one.inside(size)
			for range r.k {
				one = body.plus(one).inside(size)
			}
		case api.CmdCall:
			if f.depth == r.k {
				break
			}
			one = r.extentOfCall(c, frame{c.Var, f.depth + 1}, known)
		}
		all = all.plus(one)
	}
	return all
}

func (r reference) extentOfCall(c api.Cmd, inner frame, known map[frame]extent) extent {
	if _, ok := known[inner]; !ok {
		known[inner] = r.extents(r.body(inner), inner, known)
	}
	p := r.m.Procs[c.Var]
	results := extent{1, 0, len(c.Outs), 1}
	if p.Args > 0 {
		results = results.plus(extent{1, 0, sizeOf(c.Args...), 1})
	}
	if others := len(p.Cells) - p.Args; others > 0 {
		results = results.plus(extent{1, 0, others, 1})
	}
	return results.plus(known[inner])
}

// extent returns the extent of the unfolding and the number of its cells.
func (r reference) extent() (extent, int) {
	known := map[frame]extent{}
	x := r.extents(r.m.Body, top, known)
	cells := len(r.m.Cells)
	for f := range known {
		cells += len(r.cells(f))
	}
	return x, cells
}

// flat returns the commands of l and those in them.
func flat(l []api.Cmd) []api.Cmd {
	var all []api.Cmd
	for _, c := range l {
		all = append(append(append(all, c), flat(c.Then)...), flat(c.Else)...)
	}
	return all
}

// all returns the commands of the body of m and of its procedures.
func all(m api.Module) []api.Cmd {
	l := flat(m.Body)
	for _, p := range m.Procs {
		l = append(l, flat(p.Body)...)
	}
	return l
}

// errorOf returns the error of Unfold.
func errorOf(m api.Module, k int) api.Errno {
	if e := core.Validate(m); e != api.OK {
		return e
	}
	if k < 0 || k > 12 {
		return api.ErrRange
	}
	for _, c := range all(m) {
		if c.Kind == api.CmdDraw && c.Dist.Kind == api.DistNested {
			return api.ErrClass
		}
	}
	x, cells := reference{m, k}.extent()
	if x.commands > 2000 || cells > 400 || x.draws > 64 || x.forms > 200000 || x.depth > 200 {
		return api.ErrLimit
	}
	return api.OK
}
