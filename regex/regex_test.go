package regex_test

import (
	"math"
	"math/rand/v2"
	"slices"
	"strconv"
	"strings"
	"testing"

	"jobmux/api"
	"jobmux/regex"
)

// of returns the set of the bytes of a text.
func of(s string) api.Set { return bytes{}.with(s).api() }

// but returns the set of all bytes but those of a text.
func but(s string) api.Set { return bytes{}.with(s).not().api() }

// text returns the bytes from one to another one.
func text(from, to int) string {
	var l []byte
	for b := from; b <= to; b++ {
		l = append(l, byte(b))
	}
	return string(l)
}

// char returns the text of a byte.
func char(b int) string { return text(b, b) }

// leaf, unary and binary return nodes.
func leaf(kind int) api.Node                { return api.Node{Kind: kind} }
func bytesOf(s string) api.Node             { return api.Node{Kind: api.NodeSet, Set: of(s)} }
func unary(kind, left int) api.Node         { return api.Node{Kind: kind, Left: left} }
func binary(kind, left, right int) api.Node { return api.Node{Kind: kind, Left: left, Right: right} }

func cat(left, right int) api.Node { return binary(api.NodeCat, left, right) }
func alt(left, right int) api.Node { return binary(api.NodeAlt, left, right) }

var (
	empty = leaf(api.NodeEmpty)
	bol   = leaf(api.NodeBol)
	eol   = leaf(api.NodeEol)
	a     = bytesOf("a")
	b     = bytesOf("b")
	c     = bytesOf("c")
)

// nodes reports an error if Parse does not return the given nodes.
func nodes(t *testing.T, s string, want ...api.Node) {
	t.Helper()
	if got, code := regex.Parse(s); !slices.Equal(got, want) || code != api.OK {
		t.Errorf("Parse(%.200q)\n got %v %v\nwant %v", s, got, code, want)
	}
}

// means reports an error if a pattern is not a node with a certain set.
func means(t *testing.T, s string, want api.Set) {
	t.Helper()
	nodes(t, s, api.Node{Kind: api.NodeSet, Set: want})
}

// wrong reports an error if Parse does not return the given error and nothing else.
func wrong(t *testing.T, s string, want api.Errno) {
	t.Helper()
	if got, code := regex.Parse(s); len(got) > 0 || code != want {
		t.Errorf("Parse(%.200q)\n got %v %v\nwant %v", s, got, code, want)
	}
}

// sameAsModel ends the test if Parse and the model differ, or if a consequence does not hold. It returns the error.
func sameAsModel(t *testing.T, s string) api.Errno {
	t.Helper()
	got, code := regex.Parse(s)
	want, wanted := parse(s)
	if !slices.Equal(got, want) || code != wanted {
		t.Fatalf("Parse(%q)\n got %v %v\nwant %v %v", s, got, code, want, wanted)
	}
	if regex.Valid(got) != (code == api.OK) {
		t.Fatalf("the nodes of %q are not valid: %v", s, got)
	}
	return code
}

// all calls a function with all texts of up to a number of bytes of an alphabet.
func all(alphabet string, n int, f func(s string)) {
	text := make([]byte, n)
	var fill func(i int)
	fill = func(i int) {
		f(string(text[:i]))
		for k := 0; i < n && k < len(alphabet); k++ {
			text[i] = alphabet[k]
			fill(i + 1)
		}
	}
	fill(0)
}

// P8.1: alternatives, parts and signs.
func TestNodes(t *testing.T) {
	nodes(t, "", empty)
	nodes(t, "a", a)
	nodes(t, "ab", a, b, cat(0, 1))
	nodes(t, "abc", a, b, cat(0, 1), c, cat(2, 3))
	nodes(t, "abca", a, b, cat(0, 1), c, cat(2, 3), a, cat(4, 5))
	nodes(t, "a(bc)", a, b, c, cat(1, 2), cat(0, 3))
	nodes(t, "(ab)(ca)", a, b, cat(0, 1), c, a, cat(3, 4), cat(2, 5))
	nodes(t, "|", empty, empty, alt(0, 1))
	nodes(t, "||", empty, empty, alt(0, 1), empty, alt(2, 3))
	nodes(t, "a|b", a, b, alt(0, 1))
	nodes(t, "a|b|c", a, b, alt(0, 1), c, alt(2, 3))
	nodes(t, "a|(b|c)", a, b, c, alt(1, 2), alt(0, 3))
	nodes(t, "|a", empty, a, alt(0, 1))
	nodes(t, "a||b", a, empty, alt(0, 1), b, alt(2, 3))
	nodes(t, "ab|c", a, b, cat(0, 1), c, alt(2, 3))
	nodes(t, "a|bc", a, b, c, cat(1, 2), alt(0, 3))
	nodes(t, "a(b|c)", a, b, c, alt(1, 2), cat(0, 3))
	nodes(t, "(a|b)c", a, b, alt(0, 1), c, cat(2, 3))
	nodes(t, "()", empty)
	nodes(t, "(())", empty)
	nodes(t, "()a", empty, a, cat(0, 1))
	nodes(t, "a()", a, empty, cat(0, 1))
	nodes(t, "(|)", empty, empty, alt(0, 1))
	nodes(t, "()()", empty, empty, cat(0, 1))

	nodes(t, "a*", a, unary(api.NodeStar, 0))
	nodes(t, "a+", a, unary(api.NodePlus, 0))
	nodes(t, "a?", a, unary(api.NodeOpt, 0))
	nodes(t, "a*?+*", a, unary(api.NodeStar, 0), unary(api.NodeOpt, 1), unary(api.NodePlus, 2), unary(api.NodeStar, 3))
	nodes(t, "ab*", a, b, unary(api.NodeStar, 1), cat(0, 2))
	nodes(t, "a*b", a, unary(api.NodeStar, 0), b, cat(1, 2))
	nodes(t, "(ab)*", a, b, cat(0, 1), unary(api.NodeStar, 2))
	nodes(t, "a|b+", a, b, unary(api.NodePlus, 1), alt(0, 2))
	nodes(t, "(a|b)?", a, b, alt(0, 1), unary(api.NodeOpt, 2))
	nodes(t, "()*", empty, unary(api.NodeStar, 0))
	nodes(t, "(a*)*", a, unary(api.NodeStar, 0), unary(api.NodeStar, 1))
}

// P8.1: the atoms that are no sets.
func TestLines(t *testing.T) {
	nodes(t, "^", bol)
	nodes(t, "$", eol)
	nodes(t, "^*", bol, unary(api.NodeStar, 0))
	nodes(t, "$+?", eol, unary(api.NodePlus, 0), unary(api.NodeOpt, 1))
	nodes(t, "a^$", a, bol, cat(0, 1), eol, cat(2, 3))
	nodes(t, "$|^", eol, bol, alt(0, 1))
	nodes(t, "(^)", bol)
	means(t, `\^`, of("^"))
	means(t, `\$`, of("$"))
	means(t, "[$]", of("$"))
}

// P8.1: bytes that stand for themselves, and bytes after a \.
func TestBytes(t *testing.T) {
	for i := range 256 {
		s := char(i)
		if !strings.Contains(specials, s) {
			means(t, s, of(s))
			nodes(t, "a"+s+"*", a, bytesOf(s), unary(api.NodeStar, 1), cat(0, 2))
		}
		want := map[string]string{"n": "\n", "t": "\t", "r": "\r", "d": digits, "w": digits + "_" + letters, "s": " \t\r\n"}[s]
		if 33 <= i && i <= 47 || 58 <= i && i <= 64 || 91 <= i && i <= 96 || 123 <= i && i <= 126 {
			want = s
		}
		if want == "" {
			for _, before := range []string{"", "a", "(", "[a]", "a|", `\\`} {
				wrong(t, before+`\`+s, api.ErrEscape)
				wrong(t, before+`\`+s+"](*", api.ErrEscape)
			}
			continue
		}
		means(t, `\`+s, of(want))
		nodes(t, "a"+`\`+s+"*", a, bytesOf(want), unary(api.NodeStar, 1), cat(0, 2))
	}
	means(t, ".", but("\n"))
	nodes(t, "..", api.Node{Kind: api.NodeSet, Set: but("\n")}, api.Node{Kind: api.NodeSet, Set: but("\n")}, cat(0, 1))
	nodes(t, "é", bytesOf("\xc3"), bytesOf("\xa9"), cat(0, 1))
}

// P8.1: each byte in a class, by itself, after a \ and in ranges.
func TestClassBytes(t *testing.T) {
	for i := range 256 {
		s := char(i)
		if !strings.Contains(`]^-\`, s) {
			means(t, "["+s+"]", of(s))
			means(t, "[a"+s+"]", of("a"+s))
			means(t, "[^"+s+"]", but(s))
			means(t, "["+s+"-"+s+"]", of(s))
			means(t, "[^\x00-"+s+"]", but(text(0, i)))
			means(t, "[a-b"+s+"-\xff]", of("ab"+text(i, 255)))
		}
		if want := meant(byte(i)); want != "" {
			means(t, `[\`+s+"]", of(want))
			means(t, `[^\`+s+"]", but(want))
			means(t, `[b\`+s+"_]", of("b_"+want))
		} else {
			wrong(t, `[\`+s+"]", api.ErrEscape)
			wrong(t, `[^\`+s, api.ErrEscape)
			wrong(t, `[a\`+s, api.ErrEscape)
			wrong(t, `[a-\`+s+"[", api.ErrEscape)
			wrong(t, `[\`+s+"[", api.ErrEscape)
		}
	}
}

// P8.1: all ranges.
func TestRanges(t *testing.T) {
	// written returns the ways to write a single byte of a class.
	written := func(i int) []string {
		var l []string
		if s := char(i); !strings.Contains(`]^-\`, s) {
			l = append(l, s)
		}
		for k := range 256 {
			if meant(byte(k)) == char(i) {
				l = append(l, `\`+char(k))
			}
		}
		return l
	}
	for from := range 256 {
		for to := range 256 {
			for _, first := range written(from) {
				for _, last := range written(to) {
					if from > to {
						wrong(t, "["+first+"-"+last+"]", api.ErrClass)
					} else {
						means(t, "["+first+"-"+last+"]", of(text(from, to)))
					}
				}
			}
		}
	}
}

// P8.1: elements one after the other.
func TestClasses(t *testing.T) {
	for s, want := range map[string]api.Set{
		"[abc]": of("abc"), "[aba]": of("ab"), "[a-c]": of("abc"), "[a-cb-d]": of("abcd"), "[^a-cb-dx]": but("abcdx"),
		`[a-c\-]`: of("abc-"), `[\--\]]`: of(text('-', ']')), `[\^-a]`: of("^_`a"), `[+-\-]`: of("+,-"),
		`[\d]`: of(digits), `[\d\w]`: of(digits + letters + "_"), `[^\s]`: but(" \t\r\n"), `[\sa-c\d]`: of(" \t\r\nabc" + digits), `[a\dc]`: of("ac" + digits),
		`[^\n]`: but("\n"), "[^a]": but("a"), "[\n]": of("\n"), "[\x00-\xff]": of(text(0, 255)), "[^\x00-\xff]": of(""),
		"[[]": of("["), "[[a]": of("[a"), "[a[]": of("[a"), "[().$|*+?/]": of("().$|*+?/"), "[!-/]": of(text('!', '/')), `[\[-\\]`: of(`[\`), `[\n-\r]`: of("\n\v\f\r"), `[\t-z]`: of(text('\t', 'z')),
	} {
		means(t, s, want)
	}
	nodes(t, "[a][b]*", a, b, unary(api.NodeStar, 1), cat(0, 2))
	nodes(t, "([a]|[b])c", a, b, alt(0, 1), c, cat(2, 3))
	nodes(t, "[a]^", a, bol, cat(0, 1))
	nodes(t, "[a-b]-", bytesOf("ab"), bytesOf("-"), cat(0, 1))
	nodes(t, "[c]-[a]", c, bytesOf("-"), cat(0, 1), a, cat(2, 3))
}

// P8.1: the errors.
func TestErrors(t *testing.T) {
	for code, texts := range map[api.Errno][]string{
		api.ErrRepeat: {"*", "+", "?", "*a", "a|*", "|+", "(?)", "(*", "a(+)", "()(?a)", "a*|*", "^|*", "a|?b"},
		api.ErrParen:  {")", "a)", "())", "(a))", "a|)", ")(", "(", "a(", "(a", "((a)", "(a|(b)", "(()", "a)*", "(|", "(^", "()("},
		api.ErrClass:  {"]", "a]", "(]", "a|]", "]]", "[]", "[]]", "[]a]", "[^]", "[^]a]", "[-]", "[-a]", "[^-a]", "[a-]", "[a-b-c]", "[a-b-]", "[a--]", "[a-^]", "[a^]", "[^^]", "[^a^]", `[\d-]`, `[\d-a]`, `[a-\d]`, `[a-\w]`, `[a-\s]`, `[\s-\w]`, "[\x00-\\d]", "[\x00-\\w]", "[\x00-\\s]", "[\\d-\xff]", "[b-a]", `[a-\n]`, `[\~-a]`, "[", "[^", "[a", "[a-", "[a-b", `[\d`, `[\]`, `[a\-`, "[[", "[a][", "[(", "a[b"},
		api.ErrEscape: {`\`, `a\`, `\\\`, `(\`, `[a]\`, `\q`, `\ `, `\1`, `\0`, `\D`, `\N`, `\a`, `\v`, `\f`, `\x41`, "\\\n", "\\\x7f", "\\\x80", "\\\xff", "\\\x00", "\\é", `[\`, `[a\`, `[^\`, `[a-\`, `[\q`, `[a-\q`},
	} {
		for _, s := range texts {
			wrong(t, s, code)
		}
	}
}

// P8.1: of many errors, the first one from the left counts, and those at the end come after those.
func TestFirstError(t *testing.T) {
	// Each of these is found at its last byte.
	type first struct {
		s    string
		code api.Errno
	}
	firsts := []first{{"*", api.ErrRepeat}, {"|?", api.ErrRepeat}, {"a)", api.ErrParen}, {"]", api.ErrClass}, {"[]", api.ErrClass}, {"[b-a", api.ErrClass}, {`[a-\d`, api.ErrClass}, {`[\d-`, api.ErrClass}, {"[-", api.ErrClass}, {"[a-b-", api.ErrClass}, {"[a-]", api.ErrClass}, {"[a^", api.ErrClass}, {`\q`, api.ErrEscape}, {`[\q`, api.ErrEscape}, {`[b-\q`, api.ErrEscape}, {strings.Repeat("(", api.MaxNest+1), api.ErrNest}}
	rests := []string{"", ")", "]", "*", "[", "(", `\`, "q", `\q`, "[]", "[b-a]", "a", "]*", "])", strings.Repeat("(", api.MaxNest+1)}
	for _, f := range firsts {
		for _, r := range rests {
			wrong(t, f.s+r, f.code)
			wrong(t, "a|"+f.s+r, f.code)
			wrong(t, "(b)|"+f.s+r, f.code)
		}
	}
	// What ends too early has the error of a \ first, then that of a class, then that of a (.
	wrong(t, `(a[b\`, api.ErrEscape)
	wrong(t, `(a\`, api.ErrEscape)
	wrong(t, "(a[b", api.ErrClass)
	wrong(t, "((a[", api.ErrClass)
	wrong(t, "(a", api.ErrParen)
	// The nodes count last, the bytes first.
	long := strings.Repeat("|", api.MaxPattern)
	wrong(t, long, api.ErrLimit)
	for s, code := range map[string]api.Errno{"*": api.ErrRepeat, ")": api.ErrParen, "(": api.ErrParen, "]": api.ErrClass, "[": api.ErrClass, `\`: api.ErrEscape} {
		wrong(t, long[1:]+s, code)
		wrong(t, long+s, api.ErrLimit)
		wrong(t, s+long, api.ErrLimit)
	}
}

// P8.1: ErrLimit of bytes and of nodes, and what is not too much yet.
func TestErrLimit(t *testing.T) {
	count := func(s string, want int) {
		t.Helper()
		if l, code := regex.Parse(s); len(l) != want || code != api.OK {
			t.Errorf("Parse(%q) has %d nodes and %v, want %d", s, len(l), code, want)
		}
		sameAsModel(t, s)
	}
	count(strings.Repeat("a", api.MaxPattern), 255)
	count("a"+strings.Repeat("|", api.MaxPattern-1), 255)
	count("a"+strings.Repeat("*", api.MaxPattern-1), 128)
	count(strings.Repeat("|", api.MaxPattern-1), 255)
	count(strings.Repeat("|", api.MaxPattern-1)+"a", 255)
	count(strings.Repeat("()", api.MaxPattern/2), 127)
	wrong(t, strings.Repeat("|", api.MaxPattern), api.ErrLimit)
	for _, s := range []string{"a", "|", "*", "(", ")", "[", "]", `\`, "\x00", `\a`} {
		for _, n := range []int{api.MaxPattern + 1, api.MaxPattern + 2, 10 * api.MaxPattern} {
			wrong(t, strings.Repeat(s, n), api.ErrLimit)
		}
	}
	class := "[" + strings.Repeat("a", api.MaxPattern-2) + "]"
	nodes(t, class, a)
	wrong(t, class+"a", api.ErrLimit)
}

// P8.1: ErrNest.
func TestErrNest(t *testing.T) {
	for n := 1; n <= api.MaxNest; n++ {
		open, closed := strings.Repeat("(", n), strings.Repeat(")", n)
		nodes(t, open+"a"+closed, a)
		nodes(t, open+closed, empty)
		nodes(t, open+"a"+closed+open+"b"+closed, a, b, cat(0, 1))
		wrong(t, open, api.ErrParen)
		wrong(t, open+closed+")", api.ErrParen)
	}
	open, closed := strings.Repeat("(", api.MaxNest), strings.Repeat(")", api.MaxNest)
	wrong(t, open+"(", api.ErrNest)
	wrong(t, open+"(a)"+closed, api.ErrNest)
	wrong(t, open+")((", api.ErrNest)
	wrong(t, open+"a|b*((", api.ErrNest)
	nodes(t, open+")()(a)(b)"+closed[1:], empty, empty, cat(0, 1), a, cat(2, 3), b, cat(4, 5))
	// Only parentheses that are atoms count.
	nodes(t, open+`\([(]`+closed, bytesOf("("), bytesOf("("), cat(0, 1))
	nodes(t, strings.Repeat("(a)", 42), parsed(t, strings.Repeat("a", 42))...)
}

// parsed returns the nodes of a pattern that has no error.
func parsed(t *testing.T, s string) []api.Node {
	t.Helper()
	l, code := regex.Parse(s)
	if code != api.OK {
		t.Fatalf("Parse(%q) = %v", s, code)
	}
	return l
}

// P8.1: all short texts.
func TestShortTexts(t *testing.T) {
	check := func(s string) { sameAsModel(t, s) }
	all("a(|)[]^-\\*$.dnq", 4, check)
	all("ab[]^-\\d", 6, check)
	all("a(|)*", 8, check)
	all("a\\q[(", 6, check)
	all("+?*^$.)(", 5, check)
	all("\x00\n\x80\xff[^-]", 5, check)
}

// random returns a pattern that often has no error. Its parentheses may be nested as deep as is said.
func random(r *rand.Rand, size, depth int) string {
	s := ""
	for len(s) < size {
		switch k := r.IntN(16); {
		case k < 2:
			s += "|"
		case k < 4 && depth > 0:
			s += "(" + random(r, r.IntN(size), depth-1) + ")"
		case k == 4:
			s += class(r)
		case k == 5:
			s += `\` + pick(r, marks+"ntrdws")
		case k == 6:
			s += pick(r, "^$.")
		default:
			s += pick(r, "ab-{}/:,_0\x00\xff ")
		}
		for s[len(s)-1] != '|' && r.IntN(5) == 0 {
			s += pick(r, "*+?")
		}
	}
	return s
}

// class returns a class.
func class(r *rand.Rand) string {
	s := "[" + []string{"", "^"}[r.IntN(2)]
	for n := range 5 {
		switch r.IntN(4) {
		case 0:
			s += `\` + pick(r, "dwsntr-]^"+`\`)
		case 1:
			from := r.IntN(5)
			s += "acegi"[from:from+1] + "-" + pick(r, "acegi"[from:])
		default:
			s += pick(r, "abz09[(.$|*\n\x80")
		}
		if r.IntN(n+1) > 0 {
			break
		}
	}
	return s + "]"
}

// pick returns a byte of a text.
func pick(r *rand.Rand, s string) string {
	i := r.IntN(len(s))
	return s[i : i+1]
}

// spoil changes, adds or removes a byte.
func spoil(r *rand.Rand, s string) string {
	i := r.IntN(len(s) + 1)
	sign := pick(r, "()[]^-|*+?.$\\abdnq{\x00\xff")
	switch rest := s[i:]; {
	case r.IntN(3) == 0 || rest == "":
		return s[:i] + sign + rest
	case r.IntN(2) == 0:
		return s[:i] + rest[1:]
	default:
		return s[:i] + sign + rest[1:]
	}
}

// P8.1 and the consequences: texts at random.
func TestRandomTexts(t *testing.T) {
	r := rand.New(rand.NewPCG(8, 1))
	found := map[api.Errno]int{}
	for range 30000 {
		s := random(r, 1+r.IntN(40), 4)
		found[sameAsModel(t, s)]++
		inParentheses(t, s)
		marked(t, r, s)
		for range 1 + r.IntN(3) {
			s = spoil(r, s)
		}
		found[sameAsModel(t, s)]++
	}
	for range 2000 {
		s := random(r, 100+r.IntN(30), 30)
		found[sameAsModel(t, s)]++
	}
	for range 20000 {
		s := make([]byte, r.IntN(140))
		for i := range s {
			s[i] = byte(r.Uint32())
		}
		found[sameAsModel(t, string(s))]++
	}
	for _, code := range []api.Errno{api.OK, api.ErrLimit, api.ErrClass, api.ErrRepeat, api.ErrEscape, api.ErrParen} {
		if found[code] < 100 {
			t.Errorf("error %d came only %d times", code, found[code])
		}
	}
}

// inParentheses ends the test if the nodes of a pattern in parentheses are not those of the pattern.
func inParentheses(t *testing.T, s string) {
	t.Helper()
	l, code := regex.Parse(s)
	if code != api.OK || len(s)+2 > api.MaxPattern {
		return
	}
	if got, code := regex.Parse("(" + s + ")"); !slices.Equal(got, l) || code != api.OK {
		t.Fatalf("Parse((%q))\n got %v %v\nwant %v", s, got, code, l)
	}
}

// marked ends the test if a \ before a mark that stands for itself changes the nodes.
func marked(t *testing.T, r *rand.Rand, s string) {
	t.Helper()
	if strings.ContainsAny(s, `[\`) {
		return
	}
	i := r.IntN(len(s))
	if strings.IndexByte(marks, s[i]) < 0 || strings.IndexByte(specials, s[i]) >= 0 {
		return
	}
	l, code := regex.Parse(s)
	if got, other := regex.Parse(s[:i] + `\` + s[i:]); len(s) < api.MaxPattern && (!slices.Equal(got, l) || other != code) {
		t.Fatalf("Parse(%q) with a \\ at %d\n got %v %v\nwant %v %v", s, i, got, other, l, code)
	}
}

// The consequence about marks, for each of them.
func TestMarks(t *testing.T) {
	for i := range len(marks) {
		s := marks[i : i+1]
		if strings.Contains(specials, s) {
			continue
		}
		nodes(t, `\`+s, parsed(t, s)...)
		nodes(t, `a\`+s+"*|b", parsed(t, "a"+s+"*|b")...)
	}
}

// validity reports an error if Valid does not answer as wanted.
func validity(t *testing.T, want bool, l ...api.Node) {
	t.Helper()
	if got := regex.Valid(l); got != want {
		t.Errorf("Valid = %v, want %v: %v", got, want, l)
	}
	if got := valid(l); got != want {
		t.Errorf("the model says %v, want %v: %v", got, want, l)
	}
}

// P8.2: lists that are valid, and lists that are not.
func TestValid(t *testing.T) {
	validity(t, false)
	validity(t, true, empty)
	validity(t, true, bol)
	validity(t, true, eol)
	validity(t, true, a)
	validity(t, true, leaf(api.NodeSet)) // which bytes a set has does not matter
	validity(t, true, bytesOf(text(0, 255)))
	validity(t, true, a, unary(api.NodeStar, 0))
	validity(t, true, a, unary(api.NodePlus, 0), unary(api.NodeOpt, 1))
	validity(t, true, a, b, cat(0, 1))
	validity(t, true, a, b, alt(0, 1), empty, cat(2, 3))
	validity(t, true, a, b, c, alt(1, 2), unary(api.NodeStar, 3), cat(0, 4))
	validity(t, true, a, a, cat(0, 1), a, a, cat(3, 4), cat(2, 5))

	// Nodes that are nothing's Left or Right, or of two nodes, or in another order.
	validity(t, false, a, b)
	validity(t, false, a, b, unary(api.NodeStar, 1))
	validity(t, false, a, b, unary(api.NodeStar, 0))
	validity(t, false, a, alt(0, 0))
	validity(t, false, a, b, cat(1, 0))
	validity(t, false, a, b, cat(0, 0))
	validity(t, false, a, b, cat(1, 1))
	validity(t, false, a, b, c, cat(1, 2))
	validity(t, false, a, b, c, cat(0, 1))
	validity(t, false, a, b, c, cat(0, 2))
	validity(t, false, a, b, c, cat(0, 1), cat(2, 3))
	validity(t, false, a, b, c, cat(0, 1), cat(3, 2))
	validity(t, false, a, b, unary(api.NodeStar, 0), cat(2, 1))
	validity(t, false, a, b, unary(api.NodeStar, 0), cat(1, 2))
	validity(t, false, a, unary(api.NodeStar, 0), unary(api.NodeStar, 0))

	// Places that are not before the node.
	for _, i := range []int{-1, 1, 2, 3, 256, math.MinInt, math.MaxInt} {
		validity(t, false, a, unary(api.NodePlus, i))
		validity(t, i == 1, a, b, cat(0, i))
		validity(t, false, a, b, alt(i, 1))
	}
	validity(t, false, unary(api.NodeStar, 0))
	validity(t, false, cat(0, 0))
	validity(t, false, cat(1, 2), a, b)
	validity(t, false, unary(api.NodeOpt, 1), a)
	validity(t, false, a, cat(0, 1))

	// What has no meaning.
	for _, kind := range []int{api.NodeEmpty, api.NodeSet, api.NodeBol, api.NodeEol} {
		validity(t, true, a, leaf(kind), cat(0, 1))
		validity(t, false, a, unary(kind, 1), cat(0, 1))
		validity(t, false, a, binary(kind, 0, 1), cat(0, 1))
		validity(t, false, unary(kind, -1))
		validity(t, false, a, unary(kind, -1), cat(0, 1))
	}
	for _, kind := range []int{api.NodeStar, api.NodePlus, api.NodeOpt} {
		validity(t, true, a, unary(kind, 0))
		validity(t, false, a, binary(kind, 0, 1))
		validity(t, false, a, binary(kind, 0, -1))
		validity(t, true, a, b, unary(kind, 1), cat(0, 2))
		validity(t, false, a, b, binary(kind, 1, 1), cat(0, 2))
	}
	for i := range 4 {
		var s api.Set
		s[i] = 1 << 63
		validity(t, true, api.Node{Kind: api.NodeSet, Set: s})
		for _, kind := range []int{api.NodeEmpty, api.NodeBol, api.NodeEol} {
			validity(t, false, api.Node{Kind: kind, Set: s})
		}
		for _, kind := range []int{api.NodeStar, api.NodePlus, api.NodeOpt} {
			validity(t, false, a, api.Node{Kind: kind, Set: s})
		}
		for _, kind := range []int{api.NodeCat, api.NodeAlt} {
			validity(t, false, a, b, api.Node{Kind: kind, Right: 1, Set: s})
		}
	}
	for _, kind := range []int{0, 10, 11, -1, 100, math.MinInt, math.MaxInt} {
		validity(t, false, leaf(kind))
		validity(t, false, a, unary(kind, 0))
		validity(t, false, a, b, binary(kind, 0, 1))
		validity(t, false, leaf(kind), unary(api.NodeStar, 0))
	}
}

// P8.2: at most MaxNodes nodes.
func TestValidLimit(t *testing.T) {
	stars, cats := []api.Node{a}, []api.Node{a}
	for len(stars) < api.MaxNodes+2 {
		stars = append(stars, unary(api.NodeStar, len(stars)-1))
		cats = append(cats, empty, cat(len(cats)-1, len(cats)))
	}
	for n := range len(stars) {
		validity(t, 0 < n && n <= api.MaxNodes, stars[:n]...)
		validity(t, n%2 == 1 && n <= api.MaxNodes, cats[:n]...)
	}
	// A tree that goes to the right: all leaves first.
	right := make([]api.Node, 128)
	for i := range right {
		right[i] = bol
	}
	for i := range 127 {
		right = append(right, alt(126-i, 127+i))
	}
	validity(t, true, right...)
	validity(t, true, append(right, unary(api.NodeOpt, 254))...)
	validity(t, false, append(right, unary(api.NodeOpt, 254), unary(api.NodeOpt, 255))...)
	validity(t, false, append(right, eol, cat(254, 255))...)
	validity(t, false, make([]api.Node, 1<<20)...)
	validity(t, false, slices.Repeat([]api.Node{a}, 1<<20)...)
}

// P8.2: all short lists of some nodes.
func TestShortLists(t *testing.T) {
	sets := []api.Set{{}, of("a")}
	var some []api.Node
	for kind := 0; kind <= 10; kind++ {
		for left := -1; left <= 2; left++ {
			for right := -1; right <= 2; right++ {
				for _, s := range sets {
					some = append(some, api.Node{Kind: kind, Left: left, Right: right, Set: s})
				}
			}
		}
	}
	for _, x := range some {
		sameValid(t, x)
		sameValid(t, a, x)
		sameValid(t, x, unary(api.NodeStar, 0))
		for _, y := range some {
			sameValid(t, x, y)
			sameValid(t, a, x, y)
		}
	}
	few := []api.Node{a, empty, unary(api.NodeOpt, 0), unary(api.NodeOpt, 1), unary(api.NodeOpt, 2), unary(api.NodeOpt, 3)}
	for left := range 4 {
		for right := range 4 {
			few = append(few, cat(left, right))
		}
	}
	for i := range len(few) * len(few) * len(few) * len(few) {
		var l []api.Node
		for k := i; len(l) < 4; k /= len(few) {
			l = append(l, few[k%len(few)])
		}
		sameValid(t, l...)
		sameValid(t, append(l, cat(0, 3))...)
		sameValid(t, append(l, cat(2, 3))...)
	}
}

// sameValid ends the test if Valid and the model differ. It returns what they answer.
func sameValid(t *testing.T, l ...api.Node) bool {
	t.Helper()
	got, want := regex.Valid(l), valid(l)
	if got != want {
		t.Fatalf("Valid = %v, want %v: %v", got, want, l)
	}
	return got
}

// P8.2: the nodes of patterns, and such nodes with a change.
func TestChangedLists(t *testing.T) {
	r := rand.New(rand.NewPCG(8, 2))
	count := 0
	for range 30000 {
		l, code := regex.Parse(random(r, 1+r.IntN(30), 4))
		if code != api.OK {
			continue
		}
		if !sameValid(t, l...) {
			t.Fatalf("not valid: %v", l)
		}
		n := &l[r.IntN(len(l))]
		switch r.IntN(6) {
		case 0:
			n.Kind = r.IntN(12) - 1
		case 1:
			n.Left = r.IntN(len(l)+2) - 1
		case 2:
			n.Right = r.IntN(len(l)+2) - 1
		case 3:
			n.Set[r.IntN(4)] ^= 1 << r.IntN(64)
		case 4:
			l[r.IntN(len(l))], *n = *n, l[r.IntN(len(l))]
		default:
			l = l[:r.IntN(len(l))]
		}
		if sameValid(t, l...) {
			count++
		}
	}
	if count < 1000 {
		t.Errorf("only %d lists stayed valid", count)
	}
}

// P1: long texts, and nodes with any numbers.
func TestAnything(t *testing.T) {
	for _, s := range []string{"a", "(", ")", "[", `\`, "|", "*", "[a", "(a|", "\x00", "\xff"} {
		wrong(t, strings.Repeat(s, 1<<20), api.ErrLimit)
	}
	r := rand.New(rand.NewPCG(8, 3))
	numbers := []int{math.MinInt, math.MinInt32, -256, -1, 0, 1, 2, 3, 4, 5, 6, 7, 8, 9, 10, 255, 256, 257, math.MaxInt32, math.MaxInt}
	number := func() int { return numbers[r.IntN(len(numbers))] }
	for range 50000 {
		l := make([]api.Node, r.IntN(8))
		for i := range l {
			l[i] = api.Node{Kind: number(), Left: number(), Right: number()}
		}
		sameValid(t, l...)
	}
}

// Rules: nothing is kept between calls, no argument is changed, and results are new memory.
func TestNoSharing(t *testing.T) {
	for i := range 50 {
		s := "(a|[^b-d])*" + `\d` + strconv.Itoa(i)
		first := parsed(t, s)
		want := slices.Clone(first)
		second := parsed(t, s)
		clear(first[:cap(first)])
		if !slices.Equal(second, want) || !slices.Equal(parsed(t, s), want) {
			t.Fatalf("the nodes of %q share memory", s)
		}
		if !regex.Valid(second) || !slices.Equal(second, want) || !regex.Valid(second) {
			t.Fatalf("Valid changes %v", want)
		}
	}
}

// The chapter's examples.
func TestExamples(t *testing.T) {
	nodes(t, "a|b*", a, b, unary(api.NodeStar, 1), alt(0, 2))
	abc := parsed(t, "abc")
	nodes(t, "(ab)c", abc...)
	if slices.Equal(parsed(t, "a(bc)"), abc) {
		t.Error("a(bc) has the nodes of abc")
	}
	wrong(t, "*a", api.ErrRepeat)
	wrong(t, "(a", api.ErrParen)
	wrong(t, "[b-a]", api.ErrClass)
}
