package glob_test

import (
	"strings"
	"testing"

	"tipstaff/glob"
)

type row struct {
	pat string
	fit []string
	not []string
}

func check(t *testing.T, rows []row) {
	t.Helper()
	for _, r := range rows {
		for _, s := range r.fit {
			if !glob.Match(r.pat, s) {
				t.Errorf("Match(%q, %q) is false", r.pat, s)
			}
		}
		for _, s := range r.not {
			if glob.Match(r.pat, s) {
				t.Errorf("Match(%q, %q) is true", r.pat, s)
			}
		}
	}
}

// P4.1: bytes that stand for themselves, and the empty pattern.
func TestBytes(t *testing.T) {
	check(t, []row{
		{"", []string{""}, []string{"a", " ", "\x00", "*"}},
		{"a", []string{"a"}, []string{"", "b", "A", "aa", "ab", "ba"}},
		{"abc", []string{"abc"}, []string{"", "ab", "abcd", "abd", "xabc", "ABC"}},
		{"]", []string{"]"}, []string{"", "[", "]]"}},
		{"^-", []string{"^-"}, []string{"^", "-", ""}},
		{"\x00\xff", []string{"\x00\xff"}, []string{"\x00", "\xff", "\xff\x00", "\x00\xfe"}},
		{"\u00e9", []string{"\xc3\xa9"}, []string{"\xe9", "\xc3", "\u00e8", "e"}},
	})
}

// P4.1: a star fits any bytes, none too.
func TestStars(t *testing.T) {
	check(t, []row{
		{"*", []string{"", "a", "abc", "*", "\x00\xff\n", "\u00e9"}, nil},
		{"**", []string{"", "a", "ab"}, nil},
		{"a*", []string{"a", "ab", "a*", "abc"}, []string{"", "b", "ba"}},
		{"*a", []string{"a", "ba", "aa", "bca", "aba"}, []string{"", "b", "ab", "aab"}},
		{"a*c", []string{"abbc", "ac", "acc", "abcbc", "a*c"}, []string{"ab", "a", "c", "", "aca", "bac", "acb"}},
		{"*a*", []string{"a", "bab", "ab", "ba", "aa"}, []string{"", "b", "bb"}},
		{"a*b*c", []string{"abc", "aXbXc", "abbcc", "acbc", "abcbc", "aabbcc"}, []string{"ac", "acb", "ab", "bc", "abcd", "acbcb"}},
		{"*ab*ab*", []string{"abab", "xabyabz", "ababab", "aabab"}, []string{"ab", "aba", "abba", "aabb"}},
		{"*aab", []string{"aab", "aaab", "aabaab", "aaaaab"}, []string{"ab", "aabb", "aaba", ""}},
		{"**a**", []string{"a", "bab"}, []string{"", "b"}},
		{"a**b", []string{"ab", "axb"}, []string{"a", "b", "axbx"}},
		{"*.*", []string{".", "a.b", "..", "a.b.c"}, []string{"", "ab"}},
	})
}

// P4.1: a question mark fits one byte, not a letter of several.
func TestQuestionMarks(t *testing.T) {
	check(t, []row{
		{"?", []string{"a", "?", "\x00", "\xff", "\n"}, []string{"", "ab", "\u00e9"}},
		{"??", []string{"ab", "\u00e9"}, []string{"a", "", "abc"}},
		{"a?c", []string{"abc", "acc", "a?c"}, []string{"ac", "abbc", "ab"}},
		{"?*", []string{"a", "ab"}, []string{""}},
		{"*?", []string{"a", "ab"}, []string{""}},
		{"*??", []string{"ab", "abc"}, []string{"", "a"}},
		{"?*?", []string{"ab", "axb"}, []string{"", "a"}},
		{"*?b", []string{"ab", "bb", "bbb", "abab"}, []string{"b", "", "ba"}},
	})
}

// P4.1: a set's bytes, and one that fits what it has not.
func TestSets(t *testing.T) {
	check(t, []row{
		{"[abc]", []string{"a", "b", "c"}, []string{"", "d", "ab", "[abc]", "["}},
		{"[^abc]", []string{"d", "^", "\x00", "\xff", "]", "["}, []string{"", "a", "b", "c", "dd"}},
		{"[^a-c]?", []string{"dx", "^a", "dd"}, []string{"ax", "cx", "d", "", "dxx"}},
		{"[*?[]", []string{"*", "?", "["}, []string{"", "a", "]", "**"}},
		{"x[ab]y", []string{"xay", "xby"}, []string{"xy", "xcy", "xaby", "xa", "ay"}},
		{"[ab][cd]", []string{"ac", "bd"}, []string{"ca", "a", "ab", "acd"}},
		{"[a^]", []string{"a", "^"}, []string{"b", "", "a^"}},
		{"[^^]", []string{"a", "]"}, []string{"^", ""}},
		{"[^-a]", []string{"b", "^", "`"}, []string{"-", "a"}},
		{"*[ab]", []string{"a", "cb", "xyza", "ab"}, []string{"", "c", "ac"}},
		{"*[ab]c", []string{"ac", "xbc", "acbc", "aac"}, []string{"c", "cc", "acb"}},
		{"[ab]*", []string{"a", "bc", "bab"}, []string{"", "ca"}},
		{"[aaa]", []string{"a"}, []string{"", "aaa", "b"}},
		{"[\xff\x00]", []string{"\xff", "\x00"}, []string{"\x01", "\xfe", ""}},
		{"[\u00e9]", []string{"\xc3", "\xa9"}, []string{"\u00e9", "\xe9"}},
	})
}

// P4.1: from the lesser to the greater, whichever comes first; a - that has nothing on a side is itself.
func TestSpans(t *testing.T) {
	check(t, []row{
		{"[a-c]", []string{"a", "b", "c"}, []string{"`", "d", "-", "", "abc"}},
		{"[c-a]", []string{"a", "b", "c"}, []string{"`", "d", "-"}},
		{"[a-a]", []string{"a"}, []string{"-", "b", "`"}},
		{"[^c-a]", []string{"`", "d", "-", "^"}, []string{"a", "b", "c"}},
		{"[a-cx-z]", []string{"a", "c", "x", "z"}, []string{"d", "w", "-"}},
		{"[a-c-e]", []string{"a", "b", "c", "-", "e"}, []string{"d", "f"}},
		{"[-a]", []string{"-", "a"}, []string{"b", ".", "`"}},
		{"[a-]", []string{"a", "-"}, []string{"b", "]", ".", "a-"}},
		{"[-]", []string{"-"}, []string{"a", "]", ""}},
		{"[--]", []string{"-"}, []string{"]", "."}},
		{"[---]", []string{"-"}, []string{"]", "."}},
		{"[--0]", []string{"-", ".", "/", "0"}, []string{",", "1"}},
		{"[+--]", []string{"+", ",", "-"}, []string{"*", "."}},
		{"[a-]]", []string{"a]", "-]"}, []string{"a", "]", "]]", "b]", "^]"}},
		{"[a-]-z]", []string{"a-z]", "--z]"}, []string{"b", "a", "z", "-"}},
		{"[a-^]", []string{"a", "`", "_", "^"}, []string{"]", "-", "b"}},
		{"[^-]", []string{"a", "^", "]"}, []string{"-"}},
		{"[[-`]", []string{"[", "\\", "]", "^", "`"}, []string{"Z", "a", "-"}},
		{"[a-[]", []string{"a", "[", "]", "\\"}, []string{"Z", "b", "-"}},
		{"[\x00-\xff]", []string{"\x00", "a", "\x7f", "\x80", "\xff"}, []string{"", "ab"}},
		{"[\x7f-\x81]", []string{"\x7f", "\x80", "\x81"}, []string{"\x7e", "\x82", "\xff", "\x00"}},
		{"[*-?]", []string{"*", "-", "?", "5"}, []string{")", "@"}},
	})
}

// P4.1: in a set a backslash takes the byte behind it, whatever it is, but as a span's far end it stands for itself.
func TestBackslashesInSets(t *testing.T) {
	check(t, []row{
		{`[\]]`, []string{"]"}, []string{`\`, `\]`, "", "]]"}},
		{`[\]a]`, []string{"]", "a"}, []string{`\`, "b"}},
		{`[\\]`, []string{`\`}, []string{"]", "", `\\`}},
		{`[\a]`, []string{"a"}, []string{`\`}},
		{`[^\]]`, []string{"a", `\`, "^"}, []string{"]"}},
		{`[\^a]`, []string{"^", "a"}, []string{`\`, "b"}},
		{`[a\-z]`, []string{"a", "-", "z"}, []string{"b", `\`, "y"}},
		{`[\a-c]`, []string{"a", "-", "c"}, []string{"b", `\`}},
		{`[\--0]`, []string{"-", "0"}, []string{".", `\`, "/"}},
		{`[\]-a]`, []string{"]", "-", "a"}, []string{"^", "`", `\`}},
		{`[a-\]`, []string{"a", `\`, "]", "^", "`"}, []string{"b", "[", "-"}},
		{`[a-\]]`, []string{"a]", `\]`, "]]"}, []string{"a", "]", `\`}},
		{`[Z-\b]`, []string{"Z", "[", `\`, "b"}, []string{"]", "a", "-"}},
		{`[\-a]`, []string{"-", "a"}, []string{`\`, ".", "b"}},
		{`[a-\-c]`, []string{"a", `\`, "]", "-", "c"}, []string{"b", "[", "."}},
	})
}

// P4.1: a set that does not end goes up to the pattern's end, an empty one fits none, or each byte.
func TestOpenAndEmptySets(t *testing.T) {
	check(t, []row{
		{"[", nil, []string{"", "[", "a", "]"}},
		{"[]", nil, []string{"", "[", "a", "]", "[]"}},
		{"[]a]", nil, []string{"", "a", "]", "]a]", "aa]", "a]"}},
		{"*[]*", nil, []string{"", "a", "]", "[]"}},
		{"*[", nil, []string{"", "a", "[", "ab["}},
		{"[^", []string{"a", "^", "]", "["}, []string{"", "ab"}},
		{"[^]", []string{"a", "^", "]", "[", "\x00", "\xff"}, []string{"", "ab", "^]"}},
		{"[^]]", []string{"a]", "]]", "^]"}, []string{"]", "a", "", "a]]"}},
		{"[^]a]", []string{"xa]", "]a]"}, []string{"a", "x", "]"}},
		{"[ab", []string{"a", "b"}, []string{"", "[ab", "ab", "c"}},
		{"[^ab", []string{"c", "["}, []string{"", "a", "b", "cc"}},
		{"[a-c", []string{"a", "b", "c"}, []string{"-", "", "d"}},
		{"[a-", []string{"a", "-"}, []string{"b", "", "["}},
		{`[\`, []string{`\`}, []string{"", "[", `[\`, "]"}},
		{`[a\`, []string{`\`, "a"}, []string{"", "[", "b"}},
		{`[^\`, []string{"a", "]"}, []string{"", `\`}},
		{`[\]`, []string{"]"}, []string{"", `\`, "["}},
		{`[a-\`, []string{"a", `\`, "]"}, []string{"", "-", "b", "["}},
		{"[a*", []string{"a", "*"}, []string{"", "ab", "b"}},
		{"x[", nil, []string{"x", "x[", "xx", ""}},
		{"x[^", []string{"xx", "x["}, []string{"x", "", "xxx"}},
	})
}

// P4.1: outside a set a backslash takes the byte behind it, and at the end it is itself.
func TestBackslashes(t *testing.T) {
	check(t, []row{
		{`\*`, []string{"*"}, []string{"", "a", `\*`, `\`, "**"}},
		{`\?`, []string{"?"}, []string{"", "a", `\?`}},
		{`\[a]`, []string{"[a]"}, []string{"a", `\a`, "["}},
		{`\]`, []string{"]"}, []string{`\]`, ""}},
		{`\\`, []string{`\`}, []string{"", `\\`, "a"}},
		{`\a`, []string{"a"}, []string{`\a`, "", `\`}},
		{`\`, []string{`\`}, []string{"", "a", `\\`}},
		{`\\\`, []string{`\\`}, []string{`\`, `\\\`, ""}},
		{`a\`, []string{`a\`}, []string{"a", `a\\`}},
		{`*\`, []string{`\`, `ab\`, `\\`}, []string{"", "a", `\a`}},
		{`\*\*`, []string{"**"}, []string{"*", "ab", "***"}},
		{`*\**`, []string{"*", "a*b", "**"}, []string{"", "ab"}},
		{`\\*`, []string{`\`, `\ab`}, []string{"", "*", "a"}},
	})
}

// P4.1, R1: no pattern of many stars takes long.
func TestManyStars(t *testing.T) {
	text := strings.Repeat("a", 3000)
	check(t, []row{
		{strings.Repeat("*a", 1000) + "*b", nil, []string{text}},
		{strings.Repeat("*", 3000) + "b", []string{text + "b"}, []string{text}},
		{strings.Repeat("*[^b]", 1000), []string{text, text[:1000]}, []string{text[:999], ""}},
		{strings.Repeat("a*", 3000), []string{text, text + "b"}, []string{text[:2999]}},
		{strings.Repeat("?*", 3000) + "?", []string{text + "a"}, []string{text}},
	})
}

// member is one part, worked out in another way than the package's: the bytes that it fits, or a star.
type member struct {
	star bool
	fits [256]bool
}

func members(pat string) []member {
	var all []member
	for pat != "" {
		var m member
		n := 1
		switch {
		case pat[0] == '*':
			m.star = true
		case pat[0] == '?':
			for c := range m.fits {
				m.fits[c] = true
			}
		case pat[0] == '[':
			n += setOf(pat[1:], &m)
		case pat[0] == '\\' && len(pat) > 1:
			m.fits[pat[1]] = true
			n = 2
		default:
			m.fits[pat[0]] = true
		}
		all = append(all, m)
		pat = pat[n:]
	}
	return all
}

func setOf(rest string, m *member) int {
	n := 0
	turned := strings.HasPrefix(rest, "^")
	if turned {
		n++
	}
	for n < len(rest) && rest[n] != ']' {
		low, high, wide := rest[n], rest[n], 1
		if rest[n] == '\\' && n+1 < len(rest) {
			low, high, wide = rest[n+1], rest[n+1], 2
		} else if n+2 < len(rest) && rest[n+1] == '-' && rest[n+2] != ']' {
			high, wide = rest[n+2], 3
		}
		for c := range m.fits {
			if c >= int(low) && c <= int(high) || c >= int(high) && c <= int(low) {
				m.fits[c] = true
			}
		}
		n += wide
	}
	if turned {
		for c := range m.fits {
			m.fits[c] = !m.fits[c]
		}
	}
	return min(n+1, len(rest))
}

func fit(all []member, s string) bool {
	if len(all) == 0 {
		return s == ""
	}
	if all[0].star {
		return fit(all[1:], s) || s != "" && fit(all, s[1:])
	}
	return s != "" && all[0].fits[s[0]] && fit(all[1:], s[1:])
}

// each calls f with every text of at most that many of the bytes.
func each(bytes string, most int, f func(string)) {
	var walk func(s string)
	walk = func(s string) {
		f(s)
		for i := 0; i < len(bytes) && len(s) < most; i++ {
			walk(s + bytes[i:i+1])
		}
	}
	walk("")
}

// P4.1: every short pattern against every short text.
func TestShortPatterns(t *testing.T) {
	wrong := 0
	compare := func(pat string, all []member, s string) {
		if got, want := glob.Match(pat, s), fit(all, s); got != want && wrong < 20 {
			wrong++
			t.Errorf("Match(%q, %q) is %v", pat, s, got)
		}
	}
	each(`*?[]^-\ac`, 5, func(pat string) {
		all := members(pat)
		each(`ab]\-`, 2, func(s string) { compare(pat, all, s) })
	})
	each(`[]^-\ac`, 4, func(rest string) {
		pat := "[" + rest + "]"
		all := members(pat)
		for c := range 256 {
			compare(pat, all, string([]byte{byte(c)}))
		}
	})
	each("*?ab", 6, func(pat string) {
		all := members(pat)
		each("ab", 5, func(s string) { compare(pat, all, s) })
	})
}

// P4.2: just five bytes are not plain.
func TestPlain(t *testing.T) {
	for c := range 256 {
		b := string([]byte{byte(c)})
		want := !strings.Contains("*?[]\\", b)
		for _, s := range []string{b, "a" + b, b + "a", "a" + b + "a", b + b} {
			if glob.Plain(s) != want {
				t.Errorf("Plain(%q) is %v", s, !want)
			}
		}
	}
	if !glob.Plain("") || !glob.Plain("user:1/^-\u00e9") || glob.Plain(strings.Repeat("a", 600)+"*") {
		t.Error("Plain")
	}
}

// P4.2: a backslash ahead of each of the five, and nothing else.
func TestQuote(t *testing.T) {
	for s, want := range map[string]string{
		"":             "",
		"abc":          "abc",
		"*":            `\*`,
		"?":            `\?`,
		"[":            `\[`,
		"]":            `\]`,
		`\`:            `\\`,
		`*?[]\`:        `\*\?\[\]\\`,
		"a*b":          `a\*b`,
		`a\`:           `a\\`,
		`\*`:           `\\\*`,
		"**":           `\*\*`,
		"[a-c]":        `\[a-c\]`,
		"^-":           "^-",
		"\x00\xff\n":   "\x00\xff\n",
		"\u00e9*\xc3?": "\u00e9\\*\xc3\\?",
	} {
		if got := glob.Quote(s); got != want {
			t.Errorf("Quote(%q) = %q", s, got)
		}
	}
	for c := range 256 {
		b := string([]byte{byte(c)})
		want := b
		if strings.Contains("*?[]\\", b) {
			want = `\` + b
		}
		if got := glob.Quote(b); got != want {
			t.Errorf("Quote(%q) = %q", b, got)
		}
	}
}

// P4.3: a quoted text fits itself alone.
func TestQuotedFitsItself(t *testing.T) {
	each(`*?[]\^-a`, 4, func(s string) {
		q := glob.Quote(s)
		if !glob.Match(q, s) {
			t.Errorf("%q does not fit %q", q, s)
		}
		each(`*[]\a`, 3, func(other string) {
			if other != s && glob.Match(q, other) {
				t.Errorf("%q fits %q", q, other)
			}
		})
		if (q == s) != glob.Plain(s) {
			t.Errorf("Quote(%q) = %q", s, q)
		}
		if s != q && glob.Match(q, q) {
			t.Errorf("%q fits itself", q)
		}
	})
	for c := range 256 {
		s := "a" + string([]byte{byte(c)})
		for d := range 256 {
			if other := "a" + string([]byte{byte(d)}); glob.Match(glob.Quote(s), other) != (c == d) {
				t.Errorf("the quoted %q, and %q", s, other)
			}
		}
	}
}

// P4.3: a star fits all.
func TestStarFitsAll(t *testing.T) {
	each("*?[]\\a\x00\xff\n", 4, func(s string) {
		if !glob.Match("*", s) {
			t.Errorf("a star does not fit %q", s)
		}
	})
	if !glob.Match("*", strings.Repeat("ab*", 10000)) {
		t.Error("a star does not fit a long text")
	}
}
