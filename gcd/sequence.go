package gcd

import "slices"

// Where the variables go through the powers of numbers, the values of a polynomial are a sequence of sums of powers: the element s, from 0 on, is the sum of c[i] n[i]^(s+1). The numbers n[i], which are the values of its monomials, are called nodes; the c[i] are its coefficients.

// solve returns the coefficients of a sequence that begins with the given values, as many as there are nodes. It returns false if two nodes are equal or one is zero.
func (f field) solve(nodes, values []uint64) ([]uint64, bool) {
	product := f.rootProduct(nodes)
	coefs := make([]uint64, len(nodes))
	for i, node := range nodes {
		// The product without the root node has the coefficients q. It is zero at all other nodes, so that the sum of q[s] values[s] contains the coefficient of this node only.
		q, atNode, sum := uint64(0), uint64(0), uint64(0)
		for s, value := range slices.Backward(values) {
			q = f.add(product[s+1], f.mul(node, q))
			atNode = f.add(q, f.mul(node, atNode))
			sum = f.add(sum, f.mul(q, value))
		}
		atNode = f.mul(atNode, node)
		if atNode == 0 {
			return nil, false
		}
		coefs[i] = f.mul(sum, f.inverse(atNode))
	}
	return coefs, true
}

// element returns the element s of the sequence with these coefficients and nodes.
func (f field) element(coefs, nodes []uint64, s int) uint64 {
	sum := uint64(0)
	for i, c := range coefs {
		sum = f.add(sum, f.mul(c, f.power(nodes[i], uint64(s+1))))
	}
	return sum
}

// A recurrence is the shortest linear recurrence of the values so far (algorithm of Berlekamp and Massey): the sum of rule[i] values[n-i] is zero for all n from length on.
type recurrence struct {
	field
	values []uint64
	rule   []uint64
	length int
	// the rule before the last change of the length, how far it was from zero at the next value, and how many values ago that was
	older []uint64
	miss  uint64
	age   int
}

func newRecurrence(f field) recurrence {
	return recurrence{field: f, rule: []uint64{1}, older: []uint64{1}, miss: 1}
}

// extend appends a value and corrects the rule.
func (r *recurrence) extend(value uint64) {
	r.values = append(r.values, value)
	last := len(r.values) - 1
	r.age++
	miss := uint64(0)
	for i, c := range r.rule {
		miss = r.add(miss, r.mul(c, r.values[last-i]))
	}
	if miss == 0 {
		return
	}
	rule := slices.Clone(r.rule)
	if more := len(r.older) + r.age - len(rule); more > 0 {
		rule = append(rule, make([]uint64, more)...)
	}
	factor := r.mul(miss, r.inverse(r.miss))
	for i, c := range r.older {
		rule[r.age+i] = r.sub(rule[r.age+i], r.mul(factor, c))
	}
	if 2*r.length <= last {
		r.length, r.older, r.miss, r.age = last+1-r.length, r.rule, miss, 0
	}
	r.rule = rule
}

// settled reports whether there are more values than those that determine the rule.
func (r *recurrence) settled() bool { return len(r.values) >= 2*r.length+2 }

// powers returns those powers, from 0 to most, of a number that are nodes of the sequence: all of them if there are too few values to tell. It returns false if there are other nodes.
func (r *recurrence) powers(number uint64, most int) ([]int, bool) {
	var found []int
	node := uint64(1)
	for exp := range most + 1 {
		if !r.settled() || r.isNode(node) {
			found = append(found, exp)
		}
		node = r.mul(node, number)
	}
	return found, !r.settled() || len(found) == r.length
}

// isNode reports whether the sequence of the powers of node, which is not zero, follows the rule.
func (r *recurrence) isNode(node uint64) bool {
	sum := uint64(0)
	for _, c := range r.rule {
		sum = r.add(r.mul(sum, node), c)
	}
	return sum == 0
}
