package runes_test

import (
	"bytes"
	"math"
	"math/rand/v2"
	"slices"
	"testing"
	"unicode/utf8"

	"jobmux/api"
	"jobmux/runes"
)

const replacement = 0xfffd

// ends are bytes at the ends of the ranges that the encodings tell apart.
var ends = []byte{0, 'A', 0x7f, 0x80, 0x8f, 0x90, 0x9f, 0xa0, 0xbf, 0xc0, 0xc1, 0xc2, 0xdf, 0xe0, 0xe1, 0xec, 0xed, 0xee, 0xef, 0xf0, 0xf1, 0xf3, 0xf4, 0xf5, 0xff}

// with returns a decoder with a rest.
func with(rest ...byte) api.Decoder { return api.Decoder{Rest: rest} }

// eachCharacter calls f with all characters and their encodings as the standard library has them.
func eachCharacter(f func(r int, encoding []byte)) {
	for r := rune(0); r <= 0x10ffff; r++ {
		if r < 0xd800 || r > 0xdfff {
			f(int(r), utf8.AppendRune(nil, r))
		}
	}
}

// table says of texts of up to four bytes whether they are beginnings, and which character they are the encoding of.
type table struct {
	beginnings map[string]bool
	characters map[string]int
}

// newTable makes a table from the encodings of all characters, as the chapter defines it.
func newTable() table {
	t := table{map[string]bool{}, map[string]int{}}
	eachCharacter(func(r int, encoding []byte) {
		t.characters[string(encoding)] = r
		for n := 1; n < len(encoding); n++ {
			t.beginnings[string(encoding[:n])] = true
		}
	})
	return t
}

// decode is P4.2, word by word.
func (t table) decode(rest, b []byte) ([]byte, []int) {
	if !t.beginnings[string(rest)] {
		rest = nil
	}
	var l []int
	for i := 0; i < len(b); i++ {
		text := string(rest) + string(b[i:i+1])
		r, complete := t.characters[text]
		switch {
		case t.beginnings[text]:
			rest = []byte(text)
		case complete:
			l, rest = append(l, r), nil
		case len(rest) > 0:
			l, rest = append(l, replacement), nil
			i--
		default:
			l = append(l, replacement)
		}
	}
	return rest, l
}

// eachText calls f with texts of up to four bytes from ends, and with longer ones at random in which many bytes are of encodings.
func eachText(f func(b []byte)) {
	texts := [][]byte{nil}
	for range 5 {
		var longer [][]byte
		for _, b := range texts {
			f(b)
			if len(b) < 4 {
				for _, c := range ends {
					longer = append(longer, append(slices.Clone(b), c))
				}
			}
		}
		texts = longer
	}
	r := rand.New(rand.NewPCG(4, 1))
	for range 20000 {
		var b []byte
		for range r.IntN(12) {
			switch r.IntN(3) {
			case 0:
				b = append(b, ends[r.IntN(len(ends))])
			case 1:
				b = utf8.AppendRune(b, rune(r.IntN(0x110000)>>r.IntN(21)))
			default:
				encoding := utf8.AppendRune(nil, rune(r.IntN(0x110000)>>r.IntN(10)))
				b = append(b, encoding[:r.IntN(len(encoding))]...)
			}
		}
		f(b)
	}
}

// P4.1: Valid, and P4.2: Flush.
func TestValid(t *testing.T) {
	for _, c := range []struct {
		rest []byte
		want bool
	}{
		{nil, true},
		{[]byte{}, true},
		{[]byte{0}, false}, // an encoding is no beginning
		{[]byte{0x7f}, false},
		{[]byte{0xc3, 0xa9}, false},
		{[]byte{0xe2, 0x82, 0xac}, false},
		{[]byte{0xf0, 0x9f, 0x98, 0x80}, false},
		{[]byte{0x80}, false},
		{[]byte{0xbf}, false},
		{[]byte{0xc0}, false},
		{[]byte{0xc1}, false},
		{[]byte{0xc2}, true},
		{[]byte{0xdf}, true},
		{[]byte{0xe0}, true},
		{[]byte{0xef}, true},
		{[]byte{0xf0}, true},
		{[]byte{0xf4}, true},
		{[]byte{0xf5}, false},
		{[]byte{0xff}, false},
		{[]byte{0xe0, 0x9f}, false},
		{[]byte{0xe0, 0xa0}, true},
		{[]byte{0xed, 0x9f}, true},
		{[]byte{0xed, 0xa0}, false},
		{[]byte{0xf0, 0x8f}, false},
		{[]byte{0xf0, 0x90}, true},
		{[]byte{0xf4, 0x8f}, true},
		{[]byte{0xf4, 0x90}, false},
		{[]byte{0xf4, 0x8f, 0xbf}, true},
		{[]byte{0xf1, 0x80, 0x7f}, false},
		{[]byte{0xf1, 0x80, 0xc0}, false},
		{[]byte{0xf1, 0x80, 0x80, 0x7f}, false},
		{[]byte{0xf1, 0x80, 0x80, 0x80, 0x80}, false},
		{[]byte{0xc2, 0xc2}, false}, // two beginnings are none
	} {
		if got := runes.Valid(with(c.rest...)); got != c.want {
			t.Errorf("Valid(% x) = %t, want %t", c.rest, got, c.want)
		}
		var want []int
		if c.want && len(c.rest) > 0 {
			want = []int{replacement}
		}
		if got := runes.Flush(with(c.rest...)); !slices.Equal(got, want) {
			t.Errorf("Flush(% x) = %x, want %x", c.rest, got, want)
		}
	}
}

// P4.1, P4.2: what is valid, for all rests of up to two bytes, all of three bytes of which the first is c0 or more, and many longer ones.
func TestAllRests(t *testing.T) {
	table := newTable()
	try := func(rest []byte) {
		beginning := table.beginnings[string(rest)]
		if got := runes.Valid(with(rest...)); got != (beginning || len(rest) == 0) {
			t.Fatalf("Valid(% x) = %t", rest, got)
		}
		if got := runes.Flush(with(rest...)); len(got) > 1 || beginning != slices.Contains(got, replacement) {
			t.Fatalf("Flush(% x) = %x", rest, got)
		}
	}
	for b := range 1 << 16 {
		try([]byte{byte(b)})
		try([]byte{byte(b >> 8), byte(b)})
		for c := 0; c < 256 && b>>8 >= 0xc0; c++ {
			try([]byte{byte(b >> 8), byte(b), byte(c)})
		}
	}
	eachText(try)
}

// P4.1: Encode.
func TestEncode(t *testing.T) {
	for _, c := range []struct {
		r    int
		want string
	}{
		{0, "\x00"},
		{'a', "a"},
		{0x7f, "\x7f"},
		{0x80, "\xc2\x80"},
		{0x7ff, "\xdf\xbf"},
		{0x800, "\xe0\xa0\x80"},
		{0x20ac, "\xe2\x82\xac"},
		{0xd7ff, "\xed\x9f\xbf"},
		{0xe000, "\xee\x80\x80"},
		{0xffff, "\xef\xbf\xbf"},
		{0x10000, "\xf0\x90\x80\x80"},
		{0x10ffff, "\xf4\x8f\xbf\xbf"},
		{replacement, "\xef\xbf\xbd"},
		// What follows are no characters.
		{0xd800, "\xef\xbf\xbd"},
		{0xdbff, "\xef\xbf\xbd"},
		{0xdfff, "\xef\xbf\xbd"},
		{0x110000, "\xef\xbf\xbd"},
		{-1, "\xef\xbf\xbd"},
		{1<<32 + 'a', "\xef\xbf\xbd"},
		{-1<<32 + 'a', "\xef\xbf\xbd"},
		{math.MaxInt, "\xef\xbf\xbd"},
		{math.MinInt, "\xef\xbf\xbd"},
	} {
		if got := string(runes.Encode(c.r)); got != c.want {
			t.Errorf("Encode(%#x) = % x, want % x", c.r, got, c.want)
		}
	}
}

// P4.1, P4.2: the encodings of all characters. P2: decoding one gives the character and no rest.
func TestAllCharacters(t *testing.T) {
	eachCharacter(func(r int, encoding []byte) {
		got := runes.Encode(r)
		if !bytes.Equal(got, encoding) {
			t.Fatalf("Encode(%#x) = % x, want % x", r, got, encoding)
		}
		if d, l := runes.Decode(api.Decoder{}, got); len(d.Rest) > 0 || len(l) != 1 || l[0] != r {
			t.Fatalf("Decode(% x) = % x, %x, want %x", got, d.Rest, l, r)
		}
	})
	for r := 0xd800; r <= 0xdfff; r++ {
		if got := runes.Encode(r); string(got) != "\xef\xbf\xbd" {
			t.Fatalf("Encode(%#x) = % x", r, got)
		}
	}
}

// P4.2: Decode; the first four cases are the chapter's example 1.
func TestDecode(t *testing.T) {
	for _, c := range []struct {
		rest, b, left string
		want          []int
	}{
		{"", "\xe2\x82", "\xe2\x82", nil},
		{"\xe2\x82", "\xac", "", []int{0x20ac}},
		{"", "\xc0A", "", []int{replacement, 'A'}},
		{"", "\xe2A", "", []int{replacement, 'A'}},
		{"", "a\u00e9\u20ac\U0001f600", "", []int{'a', 0xe9, 0x20ac, 0x1f600}},
		{"", "", "", nil},
		{"\xe2\x82", "", "\xe2\x82", nil},
		{"\xe2\x82", "A", "", []int{replacement, 'A'}},                                      // one for the whole rest
		{"\xf0\x9f\x98", "\xe2\x82", "\xe2\x82", []int{replacement}},                        // the byte is read again
		{"\xc3", "\xc3\xa9", "", []int{replacement, 0xe9}},                                  // as the first of a character
		{"\xe2\x82", "\xff", "", []int{replacement, replacement}},                           // or for another replacement
		{"\xe0", "\x80\x80", "", []int{replacement, replacement, replacement}},              // which could have two bytes
		{"", "\xed\xa0\x80", "", []int{replacement, replacement, replacement}},              // which is 0xd800
		{"", "\xf4\x90\x80\x80", "", slices.Repeat([]int{replacement}, 4)},                  // which is 0x110000
		{"", "\x80\xbf\xc1\xf5\xff\x7f", "", append(slices.Repeat([]int{0xfffd}, 5), 0x7f)}, // none of the first five begins anything
		{"", "\xef\xbf\xbd", "", []int{replacement}},                                        // it has an encoding, too
		// Rests that are not valid count as none.
		{"A", "B", "", []int{'B'}},
		{"A", "", "", nil},
		{"\xe2\x82\xac", "\x80", "", []int{replacement}},
		{"\xed\xa0", "\x80", "", []int{replacement}},
		{"\xc2\xc2", "\x80", "", []int{replacement}},
		{"\xff", "\xc2", "\xc2", nil},
		{"\xf1\x80\x80\x80\x80", "a", "", []int{'a'}},
	} {
		d, got := runes.Decode(with([]byte(c.rest)...), []byte(c.b))
		if string(d.Rest) != c.left || !slices.Equal(got, c.want) {
			t.Errorf("Decode(% x, % x) = % x, %x, want % x, %x", c.rest, c.b, d.Rest, got, c.left, c.want)
		}
	}
}

// P4.2: all texts give what the promise says word by word, with any part of them as the rest.
func TestDecodeIsTheTable(t *testing.T) {
	table := newTable()
	eachText(func(b []byte) {
		for cut := range len(b) + 1 {
			if cut > 4 {
				break
			}
			d, got := runes.Decode(with(b[:cut]...), b[cut:])
			left, want := table.decode(b[:cut], b[cut:])
			if !bytes.Equal(d.Rest, left) || !slices.Equal(got, want) {
				t.Fatalf("Decode(% x, % x) = % x, %x, want % x, %x", b[:cut], b[cut:], d.Rest, got, left, want)
			}
			if !runes.Valid(d) {
				t.Fatalf("Decode(% x, % x) leaves % x, which is not valid", b[:cut], b[cut:], d.Rest)
			}
		}
	})
}

// P2: the characters do not depend on how the bytes are divided into pieces.
func TestPieces(t *testing.T) {
	eachText(func(b []byte) {
		d, want := runes.Decode(api.Decoder{}, b)
		var single api.Decoder
		var all []int
		for i := range b {
			var l []int
			single, l = runes.Decode(single, b[i:i+1])
			all = append(all, l...)
		}
		if !bytes.Equal(single.Rest, d.Rest) || !slices.Equal(all, want) {
			t.Fatalf("% x byte by byte is % x, %x, want % x, %x", b, single.Rest, all, d.Rest, want)
		}
		for cut := range len(b) {
			first, l1 := runes.Decode(api.Decoder{}, b[:cut])
			second, l2 := runes.Decode(first, b[cut:])
			if l := append(l1, l2...); !bytes.Equal(second.Rest, d.Rest) || !slices.Equal(l, want) {
				t.Fatalf("% x divided at %d is % x, %x, want % x, %x", b, cut, second.Rest, l, d.Rest, want)
			}
		}
	})
}

// P2: each byte belongs to exactly one character or to the rest. A character other than the replacement has the bytes of its encoding, the replacement has one to three.
func TestEachByteBelongs(t *testing.T) {
	eachText(func(b []byte) {
		d, l := runes.Decode(api.Decoder{}, b)
		least, most := len(d.Rest), len(d.Rest)
		for _, r := range l {
			n := len(runes.Encode(r))
			most += n
			if r == replacement {
				n = 1
			}
			least += n
		}
		if least > len(b) || most < len(b) || !bytes.HasSuffix(b, d.Rest) {
			t.Fatalf("Decode(% x) = % x, %x, which are from %d to %d bytes", b, d.Rest, l, least, most)
		}
	})
}

// P1: an end comes soon also with very many bytes.
func TestLong(t *testing.T) {
	for _, c := range []struct {
		piece string
		each  []int
	}{{"a", []int{'a'}}, {"\xff", []int{replacement}}, {"\xe2\x82", []int{replacement}}, {"\U0001f600", []int{0x1f600}}} {
		d, l := runes.Decode(api.Decoder{}, bytes.Repeat([]byte(c.piece), 1<<20))
		if l = append(l, runes.Flush(d)...); !slices.Equal(l, slices.Repeat(c.each, 1<<20)) {
			t.Errorf("2^20 times % x: %d characters", c.piece, len(l))
		}
	}
	long := with(bytes.Repeat([]byte{0xf1, 0x80}, 1<<20)...)
	if runes.Valid(long) || len(runes.Flush(long)) > 0 {
		t.Error("a rest of 2^21 bytes is valid")
	}
}

// Rules: arguments stay as they are, the memory behind them too, and results are new memory.
func TestNoSharing(t *testing.T) {
	for _, c := range []struct{ rest, b string }{
		{"\xf0\x9f", ""}, {"\xf0\x9f", "\x98"}, {"\xf0\x9f", "\x98\x80"}, {"\xf0\x9f", "A"}, {"\xf0\x9f", "\xe2\x82"}, {"", "\xe2\x82"}, {"", "\xe2"}, {"\xc0", "\xe2"}, {"\xc0", ""},
	} {
		memory := []byte(c.rest + "123456" + c.b + "123456")
		before := slices.Clone(memory)
		rest := memory[:len(c.rest)]
		b := memory[len(c.rest)+6:][:len(c.b)]
		d, l := runes.Decode(api.Decoder{Rest: rest}, b)
		left, characters := slices.Clone(d.Rest), slices.Clone(l)
		if !bytes.Equal(memory, before) {
			t.Fatalf("Decode(% x, % x) made its arguments and what is behind them % x", c.rest, c.b, memory)
		}
		clear(d.Rest)
		clear(l)
		if !bytes.Equal(memory, before) {
			t.Fatalf("Decode(% x, % x): a change of the results made the arguments % x", c.rest, c.b, memory)
		}
		if d, l := runes.Decode(api.Decoder{Rest: rest}, b); !bytes.Equal(d.Rest, left) || !slices.Equal(l, characters) {
			t.Errorf("Decode(% x, % x) is % x, %x after a change of results", c.rest, c.b, d.Rest, l)
		}
	}
	for _, r := range []int{'a', 0xe9, 0x20ac, 0x1f600, -1} {
		want := string(runes.Encode(r))
		clear(runes.Encode(r))
		if got := string(runes.Encode(r)); got != want {
			t.Errorf("Encode(%#x) is % x after a change of results, want % x", r, got, want)
		}
	}
	clear(runes.Flush(with(0xc2)))
	if l := runes.Flush(with(0xc2)); len(l) != 1 || l[0] != replacement {
		t.Errorf("Flush is %x after a change of results", l)
	}
}
