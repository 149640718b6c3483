package reply_test

import (
	"bytes"
	"math"
	"math/big"
	"math/rand"
	"regexp"
	"strconv"
	"strings"
	"testing"

	"tipstaff/api"
	"tipstaff/reply"
)

func told(t *testing.T, name string, got []byte, want string) {
	t.Helper()
	if string(got) != want {
		t.Errorf("%s = %q, not %q", name, got, want)
	}
}

// P5.1: a text on a line, where a byte 13 or 10 is a blank, and no other byte is.
func TestSimpleAndErr(t *testing.T) {
	for s, want := range map[string]string{
		"":                  "",
		"OK":                "OK",
		"a b":               "a b",
		" ":                 " ",
		"+-:$*":             "+-:$*",
		"\r\n":              "  ",
		"\n":                " ",
		"\r":                " ",
		"a\r":               "a ",
		"\na":               " a",
		"a\r\nb":            "a  b",
		"a\n\n\r\rb":        "a    b",
		"OK\r\n+OK\r\n":     "OK  +OK  ",
		"\u00e9\u2028":      "\u00e9\u2028",
		"\xff\x00\r\x80\n":  "\xff\x00 \x80 ",
		"\t\v\f\x85\x0c\\r": "\t\v\f\x85\x0c\\r",
		api.WrongPass:       "WRONGPASS invalid username-password pair or user is disabled",
	} {
		told(t, "Simple", reply.Simple(s), "+"+want+"\r\n")
		told(t, "Err", reply.Err(s), "-"+want+"\r\n")
	}
	for c := range 256 {
		s := "a" + string([]byte{byte(c)}) + "b"
		want := s
		if c == 13 || c == 10 {
			want = "a b"
		}
		told(t, "Simple", reply.Simple(s), "+"+want+"\r\n")
		told(t, "Err", reply.Err(s), "-"+want+"\r\n")
	}
	long := strings.Repeat("ab\n", 10000)
	told(t, "Err", reply.Err(long), "-"+strings.Repeat("ab ", 10000)+"\r\n")
}

// P5.1
func TestInt(t *testing.T) {
	for n, want := range map[int]string{
		0: ":0\r\n", 1: ":1\r\n", -1: ":-1\r\n", 9: ":9\r\n", 10: ":10\r\n", 42: ":42\r\n", -1000: ":-1000\r\n",
		math.MaxInt: ":9223372036854775807\r\n", math.MinInt: ":-9223372036854775808\r\n",
	} {
		told(t, "Int", reply.Int(n), want)
	}
}

// P5.1: bytes are counted, and none of them is changed.
func TestBulk(t *testing.T) {
	for s, want := range map[string]string{
		"":             "$0\r\n\r\n",
		"ab":           "$2\r\nab\r\n",
		"\r\n":         "$2\r\n\r\n\r\n",
		"a\rb\nc":      "$5\r\na\rb\nc\r\n",
		"\u00e9":       "$2\r\n\xc3\xa9\r\n",
		"\xff\x00":     "$2\r\n\xff\x00\r\n",
		"$-1\r\n":      "$5\r\n$-1\r\n\r\n",
		"123456789":    "$9\r\n123456789\r\n",
		"1234567890":   "$10\r\n1234567890\r\n",
		"\u20ac\u20ac": "$6\r\n\u20ac\u20ac\r\n",
	} {
		told(t, "Bulk", reply.Bulk(s), want)
	}
	for _, n := range []int{99, 100, api.MaxBulk, 1000, 100000} {
		s := strings.Repeat("x", n)
		told(t, "Bulk", reply.Bulk(s), "$"+strconv.Itoa(n)+"\r\n"+s+"\r\n")
	}
}

// P5.1
func TestNone(t *testing.T) {
	told(t, "Null", reply.Null(), "$-1\r\n")
	told(t, "NoArray", reply.NoArray(), "*-1\r\n")
}

// P5.1: whatever bytes are handed in stand one behind the other; they are no replies, perhaps.
func TestArray(t *testing.T) {
	told(t, "Array", reply.Array(), "*0\r\n")
	told(t, "Array", reply.Array(nil), "*1\r\n")
	told(t, "Array", reply.Array(nil, []byte{}, nil), "*3\r\n")
	told(t, "Array", reply.Array([][]byte{}...), "*0\r\n")
	told(t, "Array", reply.Array([]byte("a"), nil, []byte("\r\n")), "*3\r\na\r\n")
	told(t, "Array", reply.Array(reply.Int(5)), "*1\r\n:5\r\n")
	told(t, "Array", reply.Array(reply.Int(5), reply.Null()), "*2\r\n:5\r\n$-1\r\n")
	told(t, "Array", reply.Array(reply.Array(), reply.NoArray(), reply.Array(reply.Bulk("x"), reply.Err("e"))), "*3\r\n*0\r\n*-1\r\n*2\r\n$1\r\nx\r\n-e\r\n")
	for _, n := range []int{9, 10, 1000} {
		l := make([][]byte, n)
		for i := range l {
			l[i] = []byte{byte(i)}
		}
		told(t, "Array", reply.Array(l...), "*"+strconv.Itoa(n)+"\r\n"+string(bytes.Join(l, nil)))
	}
}

// P5.1
func TestTexts(t *testing.T) {
	told(t, "Texts", reply.Texts(), "*0\r\n")
	told(t, "Texts", reply.Texts(""), "*1\r\n$0\r\n\r\n")
	told(t, "Texts", reply.Texts("b", "a", "b"), "*3\r\n$1\r\nb\r\n$1\r\na\r\n$1\r\nb\r\n")
	told(t, "Texts", reply.Texts("a\r\n", "\u00e9", ""), "*3\r\n$3\r\na\r\n\r\n$2\r\n\xc3\xa9\r\n$0\r\n\r\n")
	l, want := []string{}, "*12\r\n"
	for range 12 {
		l, want = append(l, "x"), want+"$1\r\nx\r\n"
	}
	told(t, "Texts", reply.Texts(l...), want)
}

// P5.1, R7: what was told is its own, and what was handed in stays.
func TestToldIsItsOwn(t *testing.T) {
	for name, f := range map[string]func() []byte{
		"Simple": func() []byte { return reply.Simple("abc") }, "Err": func() []byte { return reply.Err("abc") },
		"Int": func() []byte { return reply.Int(7) }, "Bulk": func() []byte { return reply.Bulk("abc") },
		"Null": reply.Null, "NoArray": reply.NoArray,
		"Array": func() []byte { return reply.Array() }, "Texts": func() []byte { return reply.Texts("a") },
	} {
		first, second := f(), f()
		want := string(second)
		for i := range first {
			first[i] = '!'
		}
		_ = append(first, "!!!!"...)
		told(t, name, second, want)
		told(t, name, f(), want)
	}
	one, two := append(make([]byte, 0, 64), ":1\r\n"...), []byte(":2\r\n")
	l := [][]byte{one, two}
	got, alone := reply.Array(l...), reply.Array(one)
	one[1], two[1] = '8', '9'
	told(t, "Array", got, "*2\r\n:1\r\n:2\r\n")
	told(t, "Array", alone, "*1\r\n:1\r\n")
	for i := range got {
		got[i] = '!'
	}
	if string(l[0]) != ":8\r\n" || string(l[1]) != ":9\r\n" || string(one[:8]) != ":8\r\n\x00\x00\x00\x00" {
		t.Errorf("what was handed in is %q, %q", l[0], one[:8])
	}
	words := []string{"a\r", "b"}
	if reply.Texts(words...); words[0] != "a\r" || words[1] != "b" {
		t.Errorf("what was handed in is %q", words)
	}
}

// taken is Take worked out in another way than the package's: how many bytes the reply has that s begins with; 0, if there is none.
func taken(s string) int {
	if n := len(oneLine.FindString(s)); n > 0 {
		return n
	}
	if m := number.FindStringSubmatch(s); m != nil && fits(m[1]) {
		return len(m[0])
	}
	m := counted.FindStringSubmatch(s)
	if m == nil || !fits(m[2]) {
		return 0
	}
	many, _ := strconv.Atoi(m[2])
	at := len(m[0])
	if m[1] == "$" {
		if many > len(s)-at || !strings.HasPrefix(s[at+many:], "\r\n") {
			return 0
		}
		return at + many + 2
	}
	for range many {
		n := taken(s[at:])
		if n == 0 {
			return 0
		}
		at += n
	}
	return at
}

var (
	oneLine = regexp.MustCompile(`^([+-][^\r\n]*|[$*]-1)\r\n`)
	number  = regexp.MustCompile(`^:(0|-?[1-9][0-9]*)\r\n`)
	counted = regexp.MustCompile(`^([$*])(0|[1-9][0-9]*)\r\n`)
)

func fits(digits string) bool {
	n, ok := new(big.Int).SetString(digits, 10)
	return ok && n.IsInt64()
}

func checkTake(t *testing.T, s string) {
	t.Helper()
	b := []byte(s)
	first, rest, ok := reply.Take(b)
	n := taken(s)
	if ok != (n > 0) || string(first) != s[:n] || ok && string(rest) != s[n:] || !ok && (first != nil || rest != nil) {
		t.Errorf("Take(%.80q) = %.80q, %.80q, %v: a reply of %d bytes", s, first, rest, ok, n)
	}
	if string(b) != s {
		t.Errorf("Take(%.80q) has changed that to %.80q", s, b)
	}
}

// samples are replies of each kind, as they are told.
func samples() []string {
	var l []string
	for _, b := range [][]byte{
		reply.Simple(""), reply.Simple("OK"), reply.Simple("a\r\nb"), reply.Simple("+:$*-"), reply.Simple("\xff\x00 \u00e9"),
		reply.Err(""), reply.Err(api.NoPerm), reply.Err("\n"), reply.Err("-1"),
		reply.Int(0), reply.Int(-1), reply.Int(10), reply.Int(math.MaxInt), reply.Int(math.MinInt),
		reply.Bulk(""), reply.Bulk("ab"), reply.Bulk("\r\n"), reply.Bulk("$1\r\na\r\n"), reply.Bulk(strings.Repeat("\r\n", 60)), reply.Bulk("\xff\x00"),
		reply.Null(), reply.NoArray(),
		reply.Array(), reply.Array(reply.Int(5), reply.Null()), reply.Array(reply.NoArray()), reply.Array(reply.Array(), reply.Array(reply.Array(reply.Bulk("x")), reply.Simple("y")), reply.Err("z")),
		reply.Texts(), reply.Texts(""), reply.Texts("a", "\r\n", "b"), reply.Texts(strings.Split(strings.Repeat("x ", 30), " ")...),
	} {
		l = append(l, string(b))
	}
	return l
}

// P5.2: each reply, with anything behind it.
func TestTake(t *testing.T) {
	rests := append(samples(), "", "x", "\r\n", "\n", "\r", "+", "$5\r\nab", "*1\r\n", "\x00\xff", "-1")
	for _, s := range samples() {
		for _, behind := range rests {
			first, rest, ok := reply.Take([]byte(s + behind))
			if string(first) != s || string(rest) != behind || !ok {
				t.Errorf("Take(%q) = %q, %q, %v", s+behind, first, rest, ok)
			}
		}
	}
}

// P5.2: what is cut short is no reply, not even where what is there could be one.
func TestTakeOfAPiece(t *testing.T) {
	for _, s := range samples() {
		for i := range len(s) {
			if first, rest, ok := reply.Take([]byte(s[:i])); ok || first != nil || rest != nil {
				t.Errorf("Take(%q) = %q, %q, %v", s[:i], first, rest, ok)
			}
		}
	}
}

// P5.2: bytes that none of the calls tells.
func TestTakeOfNone(t *testing.T) {
	for _, s := range []string{
		"", "\r\n", "\n", "\r", "a\r\n", "OK\r\n", " +OK\r\n", "PING\r\n", "\x00+\r\n", "1\r\n", "\r\n+OK\r\n",
		"+", "+OK", "+OK\r", "+OK\n", "+O\nK\r\n", "+O\rK\r\n", "+OK\r\r\n", "+OK\n\r\n", "+OK\n\r", "+\r", "+\n\r\n", "+\r\r\n",
		"-", "-ERR", "-ERR\n", "-E\rR\r\n", "-E\nR\r\n", "-\r\r\n",
		":", ":\r\n", ":1", ":1\n", ":1\r", ":a\r\n", ":-\r\n", ":-0\r\n", ":+1\r\n", ":01\r\n", ":00\r\n", ": 1\r\n", ":1 \r\n", ":1.0\r\n", ":1e1\r\n", ":1_0\r\n", ":0x1\r\n", ":1\r\r\n",
		":9223372036854775808\r\n", ":-9223372036854775809\r\n", ":" + strings.Repeat("9", 1000) + "\r\n",
		"$", "$\r\n", "$\r\n\r\n", "$0\r\n", "$0\r\n\r", "$0\r\n\n", "$0\n\n", "$0\r\n\n\r", "$0\r\nx\r\n", "$00\r\n\r\n", "$-0\r\n\r\n", "$+0\r\n\r\n", "$-2\r\n", "$-2\r\n\r\n", "$-1\r", "$-1\n", "$-01\r\n", "$--1\r\n",
		"$1\r\n\r\n", "$1\r\nab\r\n", "$2\r\na\r\n", "$1\na\r\n", "$1\r\na\n", "$1\r\na\n\r", "$1\r\na\r", "$01\r\na\r\n", "$+1\r\na\r\n", "$ 1\r\na\r\n", "$1 \r\na\r\n", "$a\r\na\r\n", "$2\r\na\r\n\r", "$5\r\n\r\n",
		"$9223372036854775807\r\n\r\n", "$9223372036854775806\r\na\r\n", "$9223372036854775805\r\n", "$9223372036854775808\r\n", "$18446744073709551616\r\n\r\n", "$18446744073709551617\r\na\r\n", "$-9223372036854775808\r\n\r\n", "$-9223372036854775807\r\na\r\n",
		"*", "*\r\n", "*0", "*0\n", "*0\r", "*00\r\n", "*-0\r\n", "*+0\r\n", "*-2\r\n", "*-2\r\n+a\r\n", "*-1\r", "*a\r\n", "*01\r\n+\r\n", "*-01\r\n",
		"*1\r\n", "*1\r\n+", "*1\r\nx\r\n", "*1\r\n\r\n", "*1\n+\r\n", "*2\r\n+\r\n", "*2\r\n+\r\n+\r", "*2\r\n+\r\n\r\n+\r\n", "*2\r\n:1\r\n:x\r\n", "*1\r\n*1\r\n", "*1\r\n*2\r\n+\r\n", "*2\r\n*2\r\n+\r\n+\r\n", "*1\r\n$1\r\n", "*1\r\n$-2\r\n",
		"*9223372036854775807\r\n", "*9223372036854775807\r\n+\r\n", "*9223372036854775808\r\n", "*18446744073709551616\r\n", "*18446744073709551617\r\n+\r\n", "*-9223372036854775808\r\n", "*4611686018427387904\r\n*4611686018427387904\r\n*4611686018427387904\r\n*4611686018427387904\r\n",
		"*2\r\n*9223372036854775807\r\n+\r\n", "*3\r\n*9223372036854775807\r\n+\r\n", "*3\r\n*9223372036854775806\r\n*3\r\n+\r\n+\r\n+\r\n", strings.Repeat("*9223372036854775807\r\n", 100),
	} {
		for _, behind := range []string{"", "x"} {
			if first, rest, ok := reply.Take([]byte(s + behind)); ok || first != nil || rest != nil {
				t.Errorf("Take(%q) = %q, %q, %v", s+behind, first, rest, ok)
			}
		}
	}
	if first, rest, ok := reply.Take(nil); ok || first != nil || rest != nil {
		t.Errorf("Take of nothing = %q, %q, %v", first, rest, ok)
	}
}

// P5.2: every short row of bytes.
func TestTakeOfShortRows(t *testing.T) {
	parts := []string{"+", "-", ":", "$", "*", "0", "1", "2", "\r\n", "\r", "\n", "a"}
	var walk func(s string, most int)
	walk = func(s string, most int) {
		checkTake(t, s)
		for i := 0; i < len(parts) && most > 0; i++ {
			walk(s+parts[i], most-1)
		}
	}
	walk("", 5)
	for _, s := range []string{"$0\r\n", "$2\r\n", "*1\r\n", "*2\r\n", "*2\r\n+\r\n", "*1\r\n*1\r\n"} {
		walk(s, 4)
	}
	for c := range 256 {
		for d := range 256 {
			checkTake(t, string([]byte{byte(c), byte(d), '\r', '\n', '\r', '\n'}))
		}
	}
}

// P5.2: a byte that is changed, put in or left out.
func TestTakeOfChangedBytes(t *testing.T) {
	for _, s := range samples() {
		for i := range len(s) + 1 {
			for _, c := range "\x00\t\n\r $*+-./0123459:;a\u00ff" {
				checkTake(t, s[:i]+string([]byte{byte(c)})+s[i:])
				if i < len(s) {
					checkTake(t, s[:i]+string([]byte{byte(c)})+s[i+1:]+":7\r\n")
				}
			}
			if i < len(s) {
				checkTake(t, s[:i]+s[i+1:]+"$0\r\n\r\n")
			}
		}
	}
}

// P5.2, R7: what is taken, what is behind it, and what it was taken from see nothing of each other.
func TestTakenIsItsOwn(t *testing.T) {
	b := append(make([]byte, 0, 64), ":1\r\n:2\r\n"...)
	first, rest, ok := reply.Take(b)
	if !ok {
		t.Fatal("no reply")
	}
	_ = append(first, "!!!!!!!!"...)
	_ = append(rest, "!!!!!!!!"...)
	told(t, "the rest", rest, ":2\r\n")
	b[1], b[5] = '8', '9'
	told(t, "what is taken", first, ":1\r\n")
	told(t, "the rest", rest, ":2\r\n")
	first[1], rest[1] = '6', '7'
	told(t, "what is handed in", b[:12], ":8\r\n:9\r\n\x00\x00\x00\x00")
}

// anyReply makes a reply, with arrays of arrays.
func anyReply(r *rand.Rand, deep int) []byte {
	text := make([]byte, r.Intn(20))
	for i := range text {
		text[i] = "ab\r\n$*:+-0123\xff\x00"[r.Intn(15)]
	}
	switch r.Intn(8) {
	case 0:
		return reply.Simple(string(text))
	case 1:
		return reply.Err(string(text))
	case 2:
		return reply.Int(int(r.Uint64() >> r.Intn(64)))
	case 3:
		return reply.Bulk(string(text))
	case 4:
		return reply.Null()
	case 5:
		return reply.NoArray()
	case 6:
		return reply.Texts(strings.Split(string(text), "a")...)
	}
	l := make([][]byte, r.Intn(5)*min(deep, 1))
	for i := range l {
		l[i] = anyReply(r, deep-1)
	}
	return reply.Array(l...)
}

// P5.3
func TestOneByOne(t *testing.T) {
	r := rand.New(rand.NewSource(5))
	for range 300 {
		l := make([][]byte, r.Intn(60))
		for i := range l {
			l[i] = anyReply(r, 5)
		}
		takeAll(t, l, "")
		takeAll(t, l, "$9\r\nnot whole")
	}
	var l [][]byte
	for _, s := range samples() {
		l = append(l, []byte(s))
	}
	takeAll(t, l, "\r\n")
	// All of them as one, and each in an array of its own.
	takeAll(t, [][]byte{reply.Array(l...), reply.Array(), reply.Array(reply.Array(l...), reply.Array(l...))}, "*")
	for i, b := range l {
		l[i] = reply.Array(b)
	}
	takeAll(t, l, "x")
}

func takeAll(t *testing.T, l [][]byte, behind string) {
	t.Helper()
	rest := append(bytes.Join(l, nil), behind...)
	for i, want := range l {
		first, left, ok := reply.Take(rest)
		if !bytes.Equal(first, want) || !ok {
			t.Fatalf("the reply %d: Take(%q) = %q, %v", i, rest, first, ok)
		}
		rest = left
	}
	told(t, "what is left", rest, behind)
	if first, left, ok := reply.Take(rest); ok || first != nil || left != nil {
		t.Errorf("Take(%q) = %q, %q, %v", rest, first, left, ok)
	}
}

// P5.2, P5.3, R1: many arrays in each other, and one with many replies.
func TestDeepAndWide(t *testing.T) {
	for _, deep := range []int{1000, 1 << 16, 1 << 21} {
		arrays := strings.Repeat("*1\r\n", deep)
		for _, s := range []string{"*0\r\n", "*-1\r\n", "$1\r\na\r\n"} {
			first, rest, ok := reply.Take([]byte(arrays + s + ":1\r\n"))
			if len(first) != len(arrays+s) || string(rest) != ":1\r\n" || !ok {
				t.Errorf("of %d arrays %d bytes are taken, %d are left, %v", deep, len(first), len(rest), ok)
			}
		}
		for _, s := range []string{"", "*2\r\n+\r\n", "*-2\r\n"} {
			if first, rest, ok := reply.Take([]byte(arrays + s)); ok || first != nil || rest != nil {
				t.Errorf("of %d arrays that are none %d bytes are taken", deep, len(first))
			}
		}
	}
	l := make([][]byte, 200000)
	for i := range l {
		l[i] = reply.Int(i)
	}
	takeAll(t, [][]byte{reply.Array(l...), reply.Simple("OK")}, "")
	short := reply.Array(l...)
	if first, rest, ok := reply.Take(short[:len(short)-1]); ok || first != nil || rest != nil {
		t.Errorf("of an array that is cut short %d bytes are taken", len(first))
	}
}
