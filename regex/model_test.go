package regex_test

import (
	"strings"

	"jobmux/api"
)

// The model reads a pattern byte by byte into tokens, which finds the errors, cuts the tokens into pieces to make a tree, and writes the tree as a list.

// bytes is a set of bytes.
type bytes [256]bool

// with returns the set and all bytes of a text.
func (x bytes) with(s string) bytes {
	for i := range len(s) {
		x[s[i]] = true
	}
	return x
}

// not returns the bytes that are not in the set.
func (x bytes) not() bytes {
	for b := range x {
		x[b] = !x[b]
	}
	return x
}

// api returns the set as api has it.
func (x bytes) api() api.Set {
	var s api.Set
	for b := range x {
		if x[b] {
			s[b/64] += 1 << (b % 64)
		}
	}
	return s
}

const (
	marks    = "!\"#$%&'()*+,-./:;<=>?@[\\]^_`{|}~"
	specials = "()[].^$|*+?\\"
	digits   = "0123456789"
	letters  = "ABCDEFGHIJKLMNOPQRSTUVWXYZabcdefghijklmnopqrstuvwxyz"
)

// meant returns the text of the bytes that a \ and a byte stand for.
func meant(b byte) string {
	switch {
	case strings.IndexByte(marks, b) >= 0:
		return string([]byte{b})
	case b == 'n':
		return "\n"
	case b == 't':
		return "\t"
	case b == 'r':
		return "\r"
	case b == 'd':
		return digits
	case b == 'w':
		return digits + letters + "_"
	case b == 's':
		return " \t\r\n"
	}
	return ""
}

// token is a set, or a sign that is not a set.
type token struct {
	sign byte // 0 for a set
	set  bytes
}

// States of the model's scanner.
const (
	outside   = iota
	outEscape // outside of a class, after a \
	begun     // after the [ of a class
	inverted  // after the [^ of a class
	between   // in a class, after an element that no - can follow
	one       // in a class, after a single byte
	ranged    // in a class, after a single byte and a -
)

// scanner is the state of the model's scanner.
type scanner struct {
	state   int
	escaped bool // in a class: after a \
	inverse bool
	sum     bytes // of a class
	from    byte  // the last single byte of a class
	open    int
	atom    bool // there is an atom before a sign
	tokens  []token
}

// scan reads all bytes of a pattern.
func scan(s string) ([]token, api.Errno) {
	var m scanner
	for i := range len(s) {
		var code api.Errno
		switch {
		case m.state == outside:
			code = m.ground(s[i])
		case m.state == outEscape:
			if meant(s[i]) == "" {
				return nil, api.ErrEscape
			}
			m.emit(bytes{}.with(meant(s[i])))
		default:
			code = m.inside(s[i])
		}
		if code != api.OK {
			return nil, code
		}
	}
	switch {
	case m.state == outEscape || m.escaped:
		return nil, api.ErrEscape
	case m.state != outside:
		return nil, api.ErrClass
	case m.open > 0:
		return nil, api.ErrParen
	}
	return m.tokens, api.OK
}

// emit adds a set.
func (m *scanner) emit(x bytes) {
	m.tokens = append(m.tokens, token{set: x})
	m.state, m.atom = outside, true
}

// ground reads a byte outside of a class.
func (m *scanner) ground(b byte) api.Errno {
	switch b {
	case '\\':
		m.state = outEscape
	case '[':
		*m = scanner{state: begun, open: m.open, tokens: m.tokens}
	case ']':
		return api.ErrClass
	case '.':
		m.emit(bytes{}.with("\n").not())
	case '(', ')', '|', '*', '+', '?', '^', '$':
		switch {
		case b == '(':
			m.open++
		case b == ')':
			m.open--
		case strings.IndexByte("*+?", b) >= 0 && !m.atom:
			return api.ErrRepeat
		}
		if m.open < 0 {
			return api.ErrParen
		}
		if m.open > 24 {
			return api.ErrNest
		}
		m.atom = b != '(' && b != '|'
		m.tokens = append(m.tokens, token{sign: b})
	default:
		m.emit(bytes{}.with(string([]byte{b})))
	}
	return api.OK
}

// inside reads a byte of a class.
func (m *scanner) inside(b byte) api.Errno {
	switch {
	case m.escaped:
		m.escaped = false
		return m.element(meant(b), api.ErrEscape)
	case b == '\\':
		m.escaped = true
	case b == '^' && m.state == begun:
		m.state, m.inverse = inverted, true
	case b == ']' && (m.state == between || m.state == one):
		if m.inverse {
			m.sum = m.sum.not()
		}
		m.emit(m.sum)
	case b == '-' && m.state == one:
		m.state = ranged
	case b == '-' || b == ']' || b == '^':
		return api.ErrClass
	default:
		return m.element(string([]byte{b}), api.OK)
	}
	return api.OK
}

// element reads the bytes that a byte of a class stands for; if there are none, that is an error.
func (m *scanner) element(s string, none api.Errno) api.Errno {
	if s == "" {
		return none
	}
	if m.state == ranged {
		if len(s) > 1 || m.from > s[0] {
			return api.ErrClass
		}
		for b := int(m.from); b <= int(s[0]); b++ {
			m.sum[b] = true
		}
		m.state = between
		return api.OK
	}
	m.sum, m.from, m.state = m.sum.with(s), s[0], one
	if len(s) > 1 {
		m.state = between
	}
	return api.OK
}

// tree is a node and what is below it.
type tree struct {
	kind        int
	left, right *tree
	set         bytes
}

// join makes one tree of many, from the left.
func join(kind int, l []*tree) *tree {
	t := l[0]
	for _, x := range l[1:] {
		t = &tree{kind: kind, left: t, right: x}
	}
	return t
}

// alternatives cuts the tokens of a pattern at each |.
func alternatives(tokens []token) *tree {
	var l []*tree
	depth, start := 0, 0
	for i, x := range tokens {
		switch x.sign {
		case '(':
			depth++
		case ')':
			depth--
		case '|':
			if depth == 0 {
				l = append(l, sequence(tokens[start:i]))
				start = i + 1
			}
		}
	}
	return join(api.NodeAlt, append(l, sequence(tokens[start:])))
}

// sequence makes a tree of the tokens of an alternative.
func sequence(tokens []token) *tree {
	if len(tokens) == 0 {
		return &tree{kind: api.NodeEmpty}
	}
	var l []*tree
	for i := 0; i < len(tokens); i++ {
		last := len(l) - 1
		switch tokens[i].sign {
		case '(':
			start := i + 1
			for depth := 1; depth > 0; {
				i++
				if tokens[i].sign == '(' {
					depth++
				} else if tokens[i].sign == ')' {
					depth--
				}
			}
			l = append(l, alternatives(tokens[start:i]))
		case '*':
			l[last] = &tree{kind: api.NodeStar, left: l[last]}
		case '+':
			l[last] = &tree{kind: api.NodePlus, left: l[last]}
		case '?':
			l[last] = &tree{kind: api.NodeOpt, left: l[last]}
		case '^':
			l = append(l, &tree{kind: api.NodeBol})
		case '$':
			l = append(l, &tree{kind: api.NodeEol})
		default:
			l = append(l, &tree{kind: api.NodeSet, set: tokens[i].set})
		}
	}
	return join(api.NodeCat, l)
}

// write adds the nodes of a tree to a list.
func (t *tree) write(l []api.Node) []api.Node {
	n := api.Node{Kind: t.kind, Set: t.set.api()}
	if t.left != nil {
		l = t.left.write(l)
		n.Left = len(l) - 1
	}
	if t.right != nil {
		l = t.right.write(l)
		n.Right = len(l) - 1
	}
	return append(l, n)
}

// parse is the model of Parse.
func parse(s string) ([]api.Node, api.Errno) {
	if len(s) > 128 {
		return nil, api.ErrLimit
	}
	tokens, code := scan(s)
	if code != api.OK {
		return nil, code
	}
	l := alternatives(tokens).write(nil)
	if len(l) > 256 {
		return nil, api.ErrLimit
	}
	return l, api.OK
}

// valid is the model of Valid: the nodes below the last one, in their order, are all nodes of the list, and what has no meaning is zero.
func valid(l []api.Node) bool {
	if len(l) == 0 || len(l) > 256 {
		return false
	}
	var order []int
	if !below(l, len(l)-1, &order) || len(order) != len(l) {
		return false
	}
	for i, place := range order {
		if i != place {
			return false
		}
	}
	return true
}

// below adds the places of a node and of those below it, in their order. It reports false where a node has something that no node has, or where a node comes again.
func below(l []api.Node, i int, order *[]int) bool {
	if i < 0 || i >= len(l) || len(*order) > len(l) {
		return false
	}
	n := l[i]
	left := n.Kind >= api.NodeCat && n.Kind <= api.NodeOpt
	right := n.Kind == api.NodeCat || n.Kind == api.NodeAlt
	switch {
	case n.Kind < api.NodeEmpty || n.Kind > api.NodeEol:
		return false
	case n.Kind != api.NodeSet && n.Set != api.Set{}, !left && n.Left != 0, !right && n.Right != 0:
		return false
	case left && (n.Left >= i || !below(l, n.Left, order)):
		return false
	case right && (n.Right >= i || !below(l, n.Right, order)):
		return false
	}
	*order = append(*order, i)
	return true
}
