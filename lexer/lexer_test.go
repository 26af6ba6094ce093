package lexer_test

import (
	"fmt"
	"math/rand/v2"
	"regexp"
	"slices"
	"strconv"
	"strings"
	"testing"

	"jobmux/api"
	"jobmux/lexer"
)

// tok makes a token.
func tok(kind int, text string, line, column int) api.Token {
	return api.Token{Kind: kind, Text: text, Line: line, Column: column}
}

// end makes the token TokEnd.
func end(line, column int) api.Token { return tok(api.TokEnd, "", line, column) }

// brief writes tokens in a short form, of long lists only the first ones.
func brief(l []api.Token) string {
	s := fmt.Sprintf("%d tokens", len(l))
	for _, t := range l[:min(len(l), 40)] {
		s += fmt.Sprintf(", %d %.50q %d:%d", t.Kind, t.Text, t.Line, t.Column)
	}
	return s
}

// tokens reports an error if All does not return the given fault and tokens.
func tokens(t *testing.T, s string, fault api.Fault, want ...api.Token) {
	t.Helper()
	if got, f := lexer.All(s); !slices.Equal(got, want) || f != fault {
		t.Errorf("All(%.300q)\n got %s %v\nwant %s %v", s, brief(got), f, brief(want), fault)
	}
}

// faulty reports an error if All does not return the given fault and nothing else.
func faulty(t *testing.T, s string, code api.Errno, line, column int) {
	t.Helper()
	tokens(t, s, api.Fault{Code: code, Line: line, Column: column})
}

// single reports an error if a text, alone or among others, is not one token of the given kind and text.
func single(t *testing.T, s string, kind int, text string) {
	t.Helper()
	tokens(t, s, api.Fault{}, tok(kind, text, 1, 1), end(1, len(s)+1))
	after := len(s) + 3
	tokens(t, "\n{ "+s+"}{ ", api.Fault{}, tok(api.TokSign, "{", 2, 1), tok(kind, text, 2, 3), tok(api.TokSign, "}", 2, after), tok(api.TokSign, "{", 2, after+1), end(2, after+3))
}

// latin returns a text with a character for each byte.
func latin(s string) string {
	r := make([]rune, len(s))
	for i := range len(s) {
		r[i] = rune(s[i])
	}
	return string(r)
}

// unlatin is the reverse of latin.
func unlatin(s string) string {
	var b []byte
	for _, r := range s {
		b = append(b, byte(r))
	}
	return string(b)
}

// The definitions of the chapter, for texts made by latin.
var (
	skipped     = regexp.MustCompile(`^(?:[ \t\r\n]|#[^\n]*)*`)
	word        = regexp.MustCompile(`^[A-Za-z_][A-Za-z0-9_-]*`)
	number      = regexp.MustCompile(`^[0-9]+`)
	goodNumber  = regexp.MustCompile(`^(?:0|[1-9][0-9]{0,17})$`)
	quoted      = regexp.MustCompile(`^"(?:[^"\\\x00-\x1f]|\\["\\nt]|\\x[0-9A-Fa-f]{2})*"`)
	quotedPart  = regexp.MustCompile(`\\x..|\\.`)
	pattern     = regexp.MustCompile(`^/(?:[^/\\\x00-\x1f]|\\[^\x00-\x1f])*/`)
	patternPart = regexp.MustCompile(`\\.`)
	sign        = regexp.MustCompile(`^[{},=]`)
)

// quotedContent says what a part of a string stands for.
func quotedContent(part string) string {
	if n, err := strconv.ParseUint(part[2:], 16, 8); err == nil {
		return string(rune(n))
	}
	return strings.NewReplacer(`\n`, "\n", `\t`, "\t", `\"`, `"`, `\\`, `\`).Replace(part)
}

// patternContent says what a part of a pattern stands for.
func patternContent(part string) string {
	if part == `\/` {
		return "/"
	}
	return part
}

// first returns the token at the beginning of a text made by latin, and its size; or the code of the fault there.
func first(s string) (kind int, text string, size int, code api.Errno) {
	whole := func(r *regexp.Regexp) bool {
		size = len(r.FindString(s))
		return size > 0
	}
	switch {
	case whole(word):
		return api.TokWord, s[:size], size, api.OK
	case whole(number) && goodNumber.MatchString(s[:size]):
		return api.TokNumber, s[:size], size, api.OK
	case whole(quoted):
		return api.TokString, quotedPart.ReplaceAllStringFunc(s[1:size-1], quotedContent), size, api.OK
	case whole(pattern):
		return api.TokPattern, patternPart.ReplaceAllStringFunc(s[1:size-1], patternContent), size, api.OK
	case whole(sign):
		return api.TokSign, s[:size], size, api.OK
	case whole(number):
		return 0, "", 0, api.ErrNumber
	case s[0] == '"':
		return 0, "", 0, api.ErrString
	case s[0] == '/':
		return 0, "", 0, api.ErrPattern
	}
	return 0, "", 0, api.ErrChar
}

// model is P5.1.
func model(text string) ([]api.Token, api.Fault) {
	if len(text) > api.MaxText {
		return nil, api.Fault{Code: api.ErrLimit}
	}
	var l []api.Token
	line, column := 1, 1
	for s := latin(text); ; {
		for _, r := range skipped.FindString(s) {
			if column++; r == '\n' {
				line, column = line+1, 1
			}
		}
		if s = s[len(skipped.FindString(s)):]; s == "" {
			return append(l, end(line, column)), api.Fault{}
		}
		kind, text, size, code := first(s)
		if code == api.OK && len(l) == api.MaxTokens {
			code = api.ErrLimit
		}
		if code != api.OK {
			return nil, api.Fault{Code: code, Line: line, Column: column}
		}
		l = append(l, tok(kind, unlatin(text), line, column))
		column += len(unlatin(s[:size]))
		s = s[size:]
	}
}

// sameAsModel ends the test if All and the model differ.
func sameAsModel(t *testing.T, s string) {
	t.Helper()
	got, f := lexer.All(s)
	want, fault := model(s)
	if !slices.Equal(got, want) || f != fault {
		t.Fatalf("All(%.300q)\n got %s %v\nwant %s %v", s, brief(got), f, brief(want), fault)
	}
}

// pieces are what texts at random are made of: mostly tokens that are right, some of the beginnings of tokens and some bytes that are wrong.
var pieces = []string{
	" ", "\t", "\r", "\n", "\r\n", "# a \"/\x00.", "#\n", "# x\n", "a", "Zz", "_", "job", "a-", "b_1", "0", "7", "10", "900", "123456789", "{", "}", ",", "=",
	`""`, `"x"`, `"a\"b"`, `"\\"`, `"\n\t"`, `"\x41\xfF"`, "\"\x7f\x80é#/\"", "//", "/x/", `/a\/b/`, `/\\/`, `/\"\.\n/`, "/\x7f\xff\"#/",
	`"`, "/", `\`, `\x`, `\x4`, `\/`, "-", ".", "00", "\x00", "\x0b", "\x1f", "\x7f", "\x80", "é",
}

// randomText makes a text of up to n pieces. Only every second one has pieces that can be wrong.
func randomText(r *rand.Rand, n int) string {
	right := len(pieces) - r.IntN(2)*15
	var s strings.Builder
	for range r.IntN(n + 1) {
		s.WriteString(pieces[r.IntN(right)])
		if right < len(pieces) && r.IntN(2) == 0 {
			s.WriteByte(" \n"[r.IntN(2)])
		}
	}
	return s.String()
}

// P5.1: the places of tokens, and what is between them.
func TestPlaces(t *testing.T) {
	tokens(t, "", api.Fault{}, end(1, 1))
	tokens(t, " \t\r", api.Fault{}, end(1, 4))
	tokens(t, "\n", api.Fault{}, end(2, 1))
	tokens(t, "\n\r\n ", api.Fault{}, end(3, 2))
	tokens(t, "\ra", api.Fault{}, tok(api.TokWord, "a", 1, 2), end(1, 3)) // a carriage return ends no line
	tokens(t, "#", api.Fault{}, end(1, 2))
	tokens(t, "#\n", api.Fault{}, end(2, 1))
	tokens(t, "# a \"/.\x00\x7fé00\r \t# b", api.Fault{}, end(1, 20))
	tokens(t, "a#b\nc # d\n\n  e#", api.Fault{}, tok(api.TokWord, "a", 1, 1), tok(api.TokWord, "c", 2, 1), tok(api.TokWord, "e", 4, 3), end(4, 5))
	tokens(t, "##\n#\n\t=#", api.Fault{}, tok(api.TokSign, "=", 3, 2), end(3, 4))
	// Columns count bytes, not characters and not what a part stands for.
	tokens(t, `"é\x41" a`, api.Fault{}, tok(api.TokString, "éA", 1, 1), tok(api.TokWord, "a", 1, 10), end(1, 11))
	tokens(t, "#é\n/é\\//a", api.Fault{}, tok(api.TokPattern, "é/", 2, 1), tok(api.TokWord, "a", 2, 7), end(2, 8))
}

// P5.1: words.
func TestWords(t *testing.T) {
	for _, s := range []string{"a", "z", "A", "Z", "_", "job", "a-b_1", "_0", "a--", "B9", "__", strings.Repeat("w", api.MaxText-6)} {
		single(t, s, api.TokWord, s)
	}
	tokens(t, "a b", api.Fault{}, tok(api.TokWord, "a", 1, 1), tok(api.TokWord, "b", 1, 3), end(1, 4))
	tokens(t, `a"b"c/d/`, api.Fault{}, tok(api.TokWord, "a", 1, 1), tok(api.TokString, "b", 1, 2), tok(api.TokWord, "c", 1, 5), tok(api.TokPattern, "d", 1, 6), end(1, 9))
	faulty(t, "-a", api.ErrChar, 1, 1)
	faulty(t, "a.b", api.ErrChar, 1, 2)
	faulty(t, "aé", api.ErrChar, 1, 2)
}

// P5.1: numbers.
func TestNumbers(t *testing.T) {
	for _, s := range []string{"0", "9", "10", "100", "999999999999999999", "100000000000000000"} {
		single(t, s, api.TokNumber, s)
	}
	tokens(t, "1a 0_", api.Fault{}, tok(api.TokNumber, "1", 1, 1), tok(api.TokWord, "a", 1, 2), tok(api.TokNumber, "0", 1, 4), tok(api.TokWord, "_", 1, 5), end(1, 6))
	for _, s := range []string{"00", "01", "09a", "0123456789", "1000000000000000000", "9999999999999999999", strings.Repeat("0", 19), strings.Repeat("7", 1000)} {
		faulty(t, s, api.ErrNumber, 1, 1)
		faulty(t, "a =\n  "+s+" .", api.ErrNumber, 2, 3)
	}
	faulty(t, "1-", api.ErrChar, 1, 2)
}

// P5.1: signs.
func TestSigns(t *testing.T) {
	for _, s := range []string{"{", "}", ",", "="} {
		single(t, s, api.TokSign, s)
	}
	tokens(t, "{},==", api.Fault{}, tok(api.TokSign, "{", 1, 1), tok(api.TokSign, "}", 1, 2), tok(api.TokSign, ",", 1, 3), tok(api.TokSign, "=", 1, 4), tok(api.TokSign, "=", 1, 5), end(1, 6))
}

// P5.1: strings.
func TestStrings(t *testing.T) {
	for s, text := range map[string]string{
		`""`:                          "",
		`"a b"`:                       "a b",
		`"# {},=/."`:                  "# {},=/.",
		`"\""`:                        `"`,
		`"\\"`:                        `\`,
		`"\\\""`:                      `\"`,
		`"\\n"`:                       `\n`,
		`"\n"`:                        "\n",
		`"\t"`:                        "\t",
		`"\x00\x1f\x0A"`:              "\x00\x1f\n",
		`"\xaf\xAF\xaF\xff"`:          "\xaf\xaf\xaf\xff",
		`"\x411"`:                     "A1",
		`"\x22\x5c\x6e"`:              `"\n`, // what stands for a part is none itself
		"\" ~\x7f\x80\xffé\xe2\x82\"": " ~\x7f\x80\xffé\xe2\x82",
	} {
		single(t, s, api.TokString, text)
	}
	tokens(t, `"a""b"`, api.Fault{}, tok(api.TokString, "a", 1, 1), tok(api.TokString, "b", 1, 4), end(1, 7))
	for _, s := range []string{
		`"`, `"a`, `"\"`, `"\`, `"a\`, `"\\\"`, `"\q"`, `"\N"`, `"\T"`, `"\r"`, `"\0"`, `"\/"`, `"\ "`, `"\X41"`, `"\x`, `"\x"`, `"\x4`, `"\x4"`, `"\x4g"`, `"\xg4"`, `"\x 4"`, `"\x+4"`, `"\x_4"`, `"\x4_"`, `"\x0x"`,
		"\"\n\"", "\"\t\"", "\"\r\"", "\"\x00\"", "\"\x1f\"", "\"a\\\n\"", "\"\\\x00\"", "\"\\é\"", "\"\\\xff\"",
	} {
		faulty(t, s, api.ErrString, 1, 1)
		faulty(t, "a\n { "+s+"/", api.ErrString, 2, 4)
	}
}

// P5.1: patterns.
func TestPatterns(t *testing.T) {
	for s, text := range map[string]string{
		`//`:                         "",
		`/a b/`:                      "a b",
		`/# {},="./`:                 `# {},=".`,
		`/\//`:                       "/",
		`/\\/`:                       `\\`,
		`/\\\//`:                     `\\/`,
		`/\n\t\x4g\q\"\ /`:           `\n\t\x4g\q\"\ `,
		"/ ~\x7f\x80\xffé\xe2\x82/":  " ~\x7f\x80\xffé\xe2\x82",
		"/\\\x7f\\\x80\\\xff\\é\\~/": "\\\x7f\\\x80\\\xff\\é\\~",
	} {
		single(t, s, api.TokPattern, text)
	}
	tokens(t, `/a//b/`, api.Fault{}, tok(api.TokPattern, "a", 1, 1), tok(api.TokPattern, "b", 1, 4), end(1, 7))
	for _, s := range []string{
		`/`, `/a`, `/\/`, `/\`, `/a\`, `/\\\/`, `/"`,
		"/\n/", "/\t/", "/\r/", "/\x00/", "/\x1f/", "/a\\\n/", "/\\\t/", "/\\\x00/", "/\\\x1f/",
	} {
		faulty(t, s, api.ErrPattern, 1, 1)
		faulty(t, "a\n { "+s+"\n\"", api.ErrPattern, 2, 4)
	}
}

// P5.1: bytes that begin no token, no blank and no comment.
func TestChars(t *testing.T) {
	known := "\t\n\r \"#,/={}_0123456789abcdefghijklmnopqrstuvwxyzABCDEFGHIJKLMNOPQRSTUVWXYZ"
	for b := range 256 {
		s := string([]byte{byte(b)})
		_, f := lexer.All(s)
		if got, want := f.Code == api.ErrChar, !strings.Contains(known, s); got != want {
			t.Errorf("All(%q) has the fault %v", s, f)
		}
		if f.Code == api.ErrChar {
			faulty(t, "#"+s+"\n a "+s+"b", api.ErrChar, 2, 4)
		}
	}
}

// P5.1: the first fault from the left is returned.
func TestFirstFault(t *testing.T) {
	faulty(t, `. 00 " /`, api.ErrChar, 1, 1)
	faulty(t, `00 . " /`, api.ErrNumber, 1, 1)
	faulty(t, "\" . 00 /\n\"", api.ErrString, 1, 1)
	faulty(t, "/ . 00 \"\n/", api.ErrPattern, 1, 1)
	faulty(t, "a\n/x/ \"x\" 1 00 .", api.ErrNumber, 2, 11)
	faulty(t, "\"a\\q\" \"", api.ErrString, 1, 1)
}

// P5.1: MaxText.
func TestMaxText(t *testing.T) {
	blanks := strings.Repeat(" ", api.MaxText)
	tokens(t, blanks, api.Fault{}, end(1, api.MaxText+1))
	tokens(t, blanks[1:]+"a", api.Fault{}, tok(api.TokWord, "a", 1, api.MaxText), end(1, api.MaxText+1))
	faulty(t, blanks[1:]+".", api.ErrChar, 1, api.MaxText)
	tooLong := api.Fault{Code: api.ErrLimit}
	tokens(t, blanks+" ", tooLong)
	tokens(t, blanks+"\n", tooLong)
	tokens(t, "."+blanks, tooLong) // before all others
	tokens(t, "\""+blanks, tooLong)
	tokens(t, strings.Repeat("a ", api.MaxText), tooLong)
}

// P5.1: MaxTokens.
func TestMaxTokens(t *testing.T) {
	for _, many := range []string{strings.Repeat("{", api.MaxTokens), strings.Repeat("a ", api.MaxTokens), strings.Repeat("\"\"\n", api.MaxTokens), strings.Repeat("1#\n", api.MaxTokens)} {
		line, column := 1+strings.Count(many, "\n"), len(many)-strings.LastIndex(many, "\n")
		l, f := lexer.All(many + " #")
		if len(l) != api.MaxTokens+1 || f.Code != api.OK || l[api.MaxTokens] != end(line, column+2) {
			t.Errorf("%.9q...: %d tokens, %v", many, len(l), f)
		}
		for token, code := range map[string]api.Errno{
			"a": api.ErrLimit, "_ .": api.ErrLimit, "7": api.ErrLimit, `"\""`: api.ErrLimit, "/x/": api.ErrLimit, "= 00": api.ErrLimit, ",": api.ErrLimit,
			".": api.ErrChar, "\x00": api.ErrChar, "00": api.ErrNumber, `"`: api.ErrString, `"\q"`: api.ErrString, "/": api.ErrPattern,
		} {
			faulty(t, many+token, code, line, column)
			faulty(t, many+"# a\n\t"+token+" b", code, line+1, 2)
		}
	}
	faulty(t, strings.Repeat("{", api.MaxTokens-1)+"=.", api.ErrChar, 1, api.MaxTokens+1)
	faulty(t, strings.Repeat("}", api.MaxText), api.ErrLimit, 1, api.MaxTokens+1)
}

// P5.1: all texts of up to two bytes, alone and in strings, patterns, words and comments.
func TestShort(t *testing.T) {
	for b := range 1 << 16 {
		two := string([]byte{byte(b >> 8), byte(b)})
		for _, s := range []string{two[:1], two, `"` + two + `"`, "/" + two + "/", "a" + two + "1", "#" + two + "\n.", `"\x` + two + `"`, `"\` + two + `"`, `/\` + two + `/`} {
			sameAsModel(t, s)
		}
	}
}

// P5.1: texts at random.
func TestModel(t *testing.T) {
	r := rand.New(rand.NewPCG(5, 1))
	faults := map[api.Errno]int{}
	for range 60000 {
		s := randomText(r, 30)
		sameAsModel(t, s)
		_, f := lexer.All(s)
		faults[f.Code]++
	}
	for range 300 {
		s := strings.Repeat(randomText(r, 20), 1+r.IntN(300))
		sameAsModel(t, s)
		_, f := lexer.All(s)
		faults[f.Code]++
	}
	for _, code := range []api.Errno{api.OK, api.ErrLimit, api.ErrChar, api.ErrString, api.ErrPattern, api.ErrNumber} {
		if faults[code] < 20 {
			t.Errorf("only %d texts with the fault %d", faults[code], code)
		}
	}
}

// quote is P5.2.
func quote(s string) string {
	token := ""
	for i := range len(s) {
		c := s[i : i+1]
		switch {
		case c == `"` || c == `\`:
			token += `\` + c
		case c == "\n":
			token += `\n`
		case c == "\t":
			token += `\t`
		case c < " " || c == "\x7f":
			token += `\x` + strconv.FormatUint(uint64(0x100|int(c[0])), 16)[1:]
		default:
			token += c
		}
	}
	return `"` + token + `"`
}

// P5.2: Quote.
func TestQuote(t *testing.T) {
	for s, want := range map[string]string{
		"":                        `""`,
		"a b#/{}":                 `"a b#/{}"`,
		`"\`:                      `"\"\\"`,
		`\n`:                      `"\\n"`,
		"\n\t":                    `"\n\t"`,
		"\r\x00\x08\x0b":          `"\x0d\x00\x08\x0b"`,
		"\x1a\x1b\x1f\x7f":        `"\x1a\x1b\x1f\x7f"`,
		" ~\x80\x9f\xff":          "\" ~\x80\x9f\xff\"",
		"é\xe2\x82€":              "\"é\xe2\x82€\"",
		"\x001":                   `"\x001"`,
		"job a { run \"x\\ty\" }": `"job a { run \"x\\ty\" }"`,
	} {
		if got := lexer.Quote(s); got != want {
			t.Errorf("Quote(%q) = %s, want %s", s, got, want)
		}
	}
	for b := range 256 {
		s := string([]byte{byte(b)})
		if got := lexer.Quote(s); got != quote(s) {
			t.Errorf("Quote(%q) = %s, want %s", s, got, quote(s))
		}
	}
}

// Consequence of P5.1 and P5.2: what Quote returns is one token, as long as it is not too long.
func TestQuoteAndAll(t *testing.T) {
	r := rand.New(rand.NewPCG(5, 2))
	check := func(s string) {
		t.Helper()
		token := lexer.Quote(s)
		if token != quote(s) {
			t.Fatalf("Quote(%q) = %q", s, token)
		}
		if len(token) > api.MaxText {
			tokens(t, token, api.Fault{Code: api.ErrLimit})
			return
		}
		tokens(t, token, api.Fault{}, tok(api.TokString, s, 1, 1), end(1, len(token)+1))
	}
	for b := range 1 << 16 {
		check(string([]byte{byte(b >> 8), byte(b)}))
	}
	for range 5000 {
		b := make([]byte, r.IntN(100))
		for i := range b {
			b[i] = byte(r.IntN(256) >> r.IntN(5))
		}
		check(string(b))
		check(randomText(r, 20))
	}
	check(strings.Repeat("a", api.MaxText-2))
	check(strings.Repeat("a", api.MaxText-1))
	check(strings.Repeat("\x00", api.MaxText/4))
	check(strings.Repeat("\x01", api.MaxText/4-1))
}

// Consequences of P5.1: places ascend, and a line feed more at the end changes nothing but the end.
func TestConsequences(t *testing.T) {
	r := rand.New(rand.NewPCG(5, 3))
	for range 20000 {
		s := randomText(r, 20)
		l, f := lexer.All(s)
		for i := 1; i < len(l); i++ {
			if a, b := l[i-1], l[i]; a.Line > b.Line || a.Line == b.Line && a.Column >= b.Column {
				t.Fatalf("All(%q) has %v before %v", s, a, b)
			}
		}
		longer, g := lexer.All(s + "\n")
		if f != g || len(l) != len(longer) {
			t.Fatalf("All(%q) and one with a line feed more:\n%v %v\n%v %v", s, l, f, longer, g)
		}
		if n := len(l) - 1; n >= 0 && (!slices.Equal(l[:n], longer[:n]) || longer[n] != end(l[n].Line+1, 1)) {
			t.Fatalf("All(%q) and one with a line feed more:\n%v\n%v", s, l, longer)
		}
	}
}

// The chapter's examples.
func TestExamples(t *testing.T) {
	tokens(t, "job a {}", api.Fault{}, tok(api.TokWord, "job", 1, 1), tok(api.TokWord, "a", 1, 5), tok(api.TokSign, "{", 1, 7), tok(api.TokSign, "}", 1, 8), end(1, 9))
	faulty(t, `"x and no second quotation mark`, api.ErrString, 1, 1)
}

// P1: long texts.
func TestLong(t *testing.T) {
	for _, s := range []string{" ", "#", "\n", "a", "a ", "0", "9 ", `"`, `\"`, "/", `\`, "=", ".", "\x00"} {
		long := strings.Repeat(s, 1<<22/len(s))
		tokens(t, long, api.Fault{Code: api.ErrLimit})
		sameAsModel(t, long[:api.MaxText])
		sameAsModel(t, `"`+long[:api.MaxText-1])
		sameAsModel(t, "/"+long[:api.MaxText-1])
		if got := lexer.Quote(long); len(got) < len(long)+2 {
			t.Errorf("Quote of %d bytes has %d", len(long), len(got))
		}
	}
}

// Rules: nothing is kept between calls, and results are new memory.
func TestNoSharing(t *testing.T) {
	const s = "job a { run \"x\" ready /y/ }"
	l, _ := lexer.All(s)
	want := slices.Clone(l)
	clear(l)
	tokens(t, "\"\n", api.Fault{Code: api.ErrString, Line: 1, Column: 1})
	tokens(t, s, api.Fault{}, want...)
}
