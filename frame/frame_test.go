package frame_test

import (
	"bytes"
	"math/rand"
	"regexp"
	"slices"
	"strconv"
	"strings"
	"testing"

	"tipstaff/api"
	"tipstaff/frame"
)

func next(t *testing.T, b string, words []string, wide int, err api.Errno) {
	t.Helper()
	l, n, e := frame.Next([]byte(b))
	if !slices.Equal(l, words) || n != wide || e != err {
		t.Errorf("Next(%.80q) = %.80q, %d, %d, not %.80q, %d, %d", b, l, n, e, words, wide, err)
	}
}

// whole: b is a request, behind which others do not matter, and each beginning of which is not whole.
func whole(t *testing.T, b string, words ...string) {
	t.Helper()
	next(t, b, words, len(b), api.OK)
	for _, more := range []string{"\n", "\r\n", "*1\r\n", "*0\r\n", "PING\r\n", strings.Repeat("x", 700)} {
		next(t, b+more, words, len(b), api.OK)
	}
	for n := range len(b) {
		part(t, b[:n])
	}
}

func part(t *testing.T, b string) {
	t.Helper()
	next(t, b, nil, 0, api.OK)
}

// wrong: b is none, whatever is behind it, and its last byte is what makes it none.
func wrong(t *testing.T, b string) {
	t.Helper()
	for _, more := range []string{"", "\n", "\r\n", "PING\r\n", strings.Repeat("x", 700)} {
		next(t, b+more, nil, 0, api.ErrFrame)
	}
	for n := range len(b) {
		part(t, b[:n])
	}
}

// P6.1: lines.
func TestNextLine(t *testing.T) {
	whole(t, "PING\r\n", "PING")
	whole(t, "PING\n", "PING")
	whole(t, "set a b\r\n", "set", "a", "b")
	whole(t, "  set   a b  \n", "set", "a", "b")
	whole(t, " \r\n")
	whole(t, "   \n")
	whole(t, "\n")
	whole(t, "\r\n")
	whole(t, "\r\r\n", "\r")
	whole(t, "a \r\r\n", "a", "\r")
	whole(t, "a\rb c\r \n", "a\rb", "c\r")
	whole(t, "a\tb\x00\v \xff\x80\u00a0\n", "a\tb\x00\v", "\xff\x80\u00a0")
	whole(t, " *1\r\n", "*1")
	whole(t, "$4\r\n", "$4")
	whole(t, "a *1 $4\r\n", "a", "*1", "$4")
	part(t, "")
	part(t, "PING\r")
	part(t, strings.Repeat("\r", 599))
	next(t, "a\nb\r\n", []string{"a"}, 2, api.OK)
	next(t, "\n\nb\r\n", nil, 1, api.OK)
	for c := range 256 {
		if c != '*' && c != '\n' && c != '\r' && c != ' ' {
			whole(t, string([]byte{byte(c), '\r', '\n'}), string([]byte{byte(c)}))
		}
	}
}

// P6.1: how long a line may be, with its end, and how many words it may have.
func TestNextLineBounds(t *testing.T) {
	x := strings.Repeat("x", 600)
	whole(t, x[:599]+"\n", x[:599])
	whole(t, x[:598]+"\r\n", x[:598])
	wrong(t, x)
	wrong(t, x[:599]+"\r")
	next(t, x+"\n", nil, 0, api.ErrFrame)
	next(t, x[:599]+"\r\n", nil, 0, api.ErrFrame)
	whole(t, strings.Repeat(" ", 599)+"\n")
	wrong(t, strings.Repeat(" ", 600))
	words := slices.Repeat([]string{"ab"}, 32)
	whole(t, strings.Join(words, " ")+"\r\n", words...)
	whole(t, " "+strings.Join(words, "  ")+"  \n", words...)
	wrong(t, strings.Join(words, " ")+" c\r\n")
	wrong(t, strings.Repeat("a ", 33)+"\n")
	wrong(t, strings.Repeat("a ", 299)+"\n")
}

// P6.1: rows.
func TestNextRow(t *testing.T) {
	whole(t, "*1\r\n$4\r\nPING\r\n", "PING")
	whole(t, "*2\r\n$3\r\nget\r\n$1\r\na\r\n", "get", "a")
	whole(t, "*1\r\n$0\r\n\r\n", "")
	whole(t, "*2\r\n$0\r\n\r\n$0\r\n\r\n", "", "")
	whole(t, "*1\r\n$2\r\n\r\n\r\n", "\r\n")
	whole(t, "*2\r\n$1\r\n\n\r\n$1\r\n\r\r\n", "\n", "\r")
	whole(t, "*1\r\n$8\r\n*1\r\n$1\r\n\r\n", "*1\r\n$1\r\n")
	whole(t, "*2\r\n$3\r\na b\r\n$2\r\n\u00e9\r\n", "a b", "\u00e9")
	whole(t, "*1\r\n$3\r\n\x00\xff\x80\r\n", "\x00\xff\x80")
	part(t, "*1\r\n$4\r\nPI")
	part(t, "*1\r\nx")
	part(t, "*x")
	part(t, "*99")
	part(t, "*1\r\n$999")
	part(t, "*1\r\n$1\r\nab")
}

// P6.1: the numbers of rows and of words.
func TestNextRowBounds(t *testing.T) {
	for n := 1; n <= 32; n++ {
		words := slices.Repeat([]string{"v"}, n)
		whole(t, "*"+strconv.Itoa(n)+"\r\n"+strings.Repeat("$1\r\nv\r\n", n), words...)
	}
	for _, n := range []int{0, 1, 9, 10, 99, 100, 511, 512} {
		s := strings.Repeat("y", n)
		whole(t, "*1\r\n$"+strconv.Itoa(n)+"\r\n"+s+"\r\n", s)
	}
	for _, s := range []string{
		"0", "-1", "-0", "33", "34", "100", "01", "+1", "1 ", " 1", "", "1a", "a", "0x1", "1.0", "1_0", "*1", "$1", "\r", "1\r", "\xb9",
		"2147483648", "4294967297", "999999999999", "9999999999999",
	} {
		wrong(t, "*"+s+"\r\n")
	}
	for _, s := range []string{
		"513", "514", "1000", "-1", "-0", "00", "01", "+1", "1 ", " 1", "", "1a", "a", "0x1", "$1", "*1", "\r", "1\r", "4294967297", "9999999999999",
	} {
		wrong(t, "*1\r\n$"+s+"\r\n")
		wrong(t, "*2\r\n$1\r\na\r\n$"+s+"\r\n")
	}
	for _, head := range []string{"1", "*1", "x1", ":1", "+1", " $1", "$ 1", ""} {
		wrong(t, "*1\r\n"+head+"\r\n")
	}
}

// P6.1: lines of a row end with both bytes, within their first 16.
func TestNextRowLines(t *testing.T) {
	wrong(t, "*1\n")
	wrong(t, "*\n")
	wrong(t, "*\r\n")
	wrong(t, "*1\r\n$1\n")
	wrong(t, "*1\r\n\n")
	wrong(t, "*1\r\n\r\n")
	wrong(t, "*1\r\n$\n")
	wrong(t, "*1 \r\n")
	wrong(t, "*"+strings.Repeat("1", 15))
	wrong(t, "*"+strings.Repeat("0", 13)+"1\n")
	wrong(t, "*"+strings.Repeat("0", 12)+"1\r\n")
	wrong(t, "*"+strings.Repeat("0", 13)+"1\r")
	wrong(t, "*1"+strings.Repeat("\r", 14))
	wrong(t, "*1\r\n"+strings.Repeat("\r", 16))
	wrong(t, "*1\r\n$1"+strings.Repeat("x", 14))
	wrong(t, "*2\r\n$1\r\na\r\n$1"+strings.Repeat("x", 14))
	part(t, "*"+strings.Repeat("1", 14))
	part(t, "*1\r\n"+strings.Repeat("x", 15))
}

// P6.1: what is behind a word is looked at only when all of it is there.
func TestNextRowWordEnds(t *testing.T) {
	for _, end := range []string{"\n\r", "\r\r", "\n\n", "bc", "\rx", "x\n", "\r ", "\x00\n"} {
		wrong(t, "*1\r\n$1\r\na"+end)
		wrong(t, "*2\r\n$1\r\na\r\n$0\r\n"+end)
	}
	wrong(t, "*1\r\n$1\r\nab\r")
	wrong(t, "*1\r\n$3\r\na\r\nx\r")
}

var (
	rowHead = regexp.MustCompile(`^\*([1-9]|[12][0-9]|3[0-2])\r\n`)
	texHead = regexp.MustCompile(`^\$(0|[1-9][0-9]?|[1-4][0-9][0-9]|50[0-9]|51[0-2])\r\n`)
)

// slowHead takes a line of a row: its number, how many bytes, and what it is (1 whole, 0 not, -1 none).
func slowHead(b string, r *regexp.Regexp) (int, int, int) {
	if m := r.FindStringSubmatch(b); m != nil {
		n, _ := strconv.Atoi(m[1])
		return n, len(m[0]), 1
	}
	if len(b) >= 16 || strings.Contains(b, "\n") {
		return 0, 0, -1
	}
	return 0, 0, 0
}

// slow tells what Next tells, in another way.
func slow(b string) ([]string, int, api.Errno) {
	is := [2]api.Errno{api.ErrFrame, api.OK}
	if !strings.HasPrefix(b, "*") {
		first, _, ended := strings.Cut(b[:min(len(b), 600)], "\n")
		if !ended && len(b) >= 600 {
			return nil, 0, api.ErrFrame
		}
		if !ended {
			return nil, 0, api.OK
		}
		words := strings.FieldsFunc(strings.TrimSuffix(first, "\r"), func(r rune) bool { return r == ' ' })
		if len(words) > 32 {
			return nil, 0, api.ErrFrame
		}
		return words, len(first) + 1, api.OK
	}
	n, at, what := slowHead(b, rowHead)
	if what < 1 {
		return nil, 0, is[what+1]
	}
	var words []string
	for range n {
		long, wide, what := slowHead(b[at:], texHead)
		if what < 1 {
			return nil, 0, is[what+1]
		}
		at += wide
		if len(b) < at+long+2 {
			return nil, 0, api.OK
		}
		words = append(words, b[at:at+long])
		at += long
		if b[at:at+2] != "\r\n" {
			return nil, 0, api.ErrFrame
		}
		at += 2
	}
	return words, at, api.OK
}

// P6.1: all short rows of pieces, held against the document's words said in another way.
func TestNextAllShort(t *testing.T) {
	pieces := []string{"*", "$", "\r", "\n", "\r\n", " ", "a", "0", "1", "2", "*1\r\n", "*2\r\n", "$1\r\n", "$0\r\n", "3"}
	var walk func(b string, left int)
	walk = func(b string, left int) {
		words, wide, err := slow(b)
		next(t, b, words, wide, err)
		if left > 0 && !t.Failed() {
			for _, p := range pieces {
				walk(b+p, left-1)
			}
		}
	}
	walk("", 5)
	for _, head := range []string{"*1\r\n", "*2\r\n$1\r\na\r\n", "*1\r\n$2\r\n", "*1\r\n$1"} {
		walk(head, 3)
	}
}

// P6.1: what is none stays none, and what is whole stays as it is, whatever comes behind.
func TestNextStays(t *testing.T) {
	chance := rand.New(rand.NewSource(6))
	pieces := []string{"*1\r\n", "*2\r\n", "*3\r\n", "$1\r\n", "$2\r\n", "ab", "x", "\r\n", " ", "\n", "*33\r\n", "\r", "$3\r\n"}
	for range 20000 {
		b := ""
		for range chance.Intn(12) {
			b += pieces[chance.Intn(len(pieces))]
		}
		words, wide, err := slow(b)
		next(t, b, words, wide, err)
		for n := range len(b) {
			l, w, e := frame.Next([]byte(b[:n]))
			if (w > 0 || e != api.OK) && (w != wide || e != err || !slices.Equal(l, words)) {
				t.Fatalf("Next(%q) = %q, %d, %d, but with %q behind: %q, %d, %d", b[:n], l, w, e, b[n:], words, wide, err)
			}
		}
	}
}

func read(t *testing.T, r *frame.Reader, words []string, ok bool, err api.Errno, left int) {
	t.Helper()
	l, o, e := r.Next()
	if !slices.Equal(l, words) || o != ok || e != err || r.Left() != left {
		t.Errorf("Next = %.80q, %v, %d, and %d bytes left, not %.80q, %v, %d, and %d", l, o, e, r.Left(), words, ok, err, left)
	}
}

// P6.2: requests come out one by one, and those without words not at all.
func TestReader(t *testing.T) {
	r := frame.New()
	read(t, r, nil, false, api.OK, 0)
	r.Feed(nil)
	r.Feed([]byte{})
	read(t, r, nil, false, api.OK, 0)
	r.Feed([]byte("PING\r\nget a\n*1\r\n$1\r\nx\r\n*1\r\n$1"))
	if r.Left() != 29 {
		t.Errorf("Left = %d, not 29", r.Left())
	}
	read(t, r, []string{"PING"}, true, api.OK, 23)
	read(t, r, []string{"get", "a"}, true, api.OK, 17)
	read(t, r, []string{"x"}, true, api.OK, 6)
	read(t, r, nil, false, api.OK, 6)
	r.Feed([]byte("\r\n"))
	read(t, r, nil, false, api.OK, 8)
	r.Feed([]byte("\n\r\nq"))
	read(t, r, []string{"\n"}, true, api.OK, 1)
	read(t, r, nil, false, api.OK, 1)
	r.Feed([]byte("uit\n"))
	read(t, r, []string{"quit"}, true, api.OK, 0)
	read(t, r, nil, false, api.OK, 0)
}

// P6.2: bytes of empty lines are gone, also where no request is behind them.
func TestReaderEmptyLines(t *testing.T) {
	r := frame.New()
	r.Feed([]byte("\r\n\n   \r\n"))
	if r.Left() != 8 {
		t.Errorf("Left = %d, not 8", r.Left())
	}
	read(t, r, nil, false, api.OK, 0)
	r.Feed([]byte("\n\n  PING\r\n\n\nx"))
	read(t, r, []string{"PING"}, true, api.OK, 3)
	read(t, r, nil, false, api.OK, 1)
	r.Feed([]byte("\n \n*1\r\n$0\r\n\r\n"))
	read(t, r, []string{"x"}, true, api.OK, 12)
	read(t, r, []string{""}, true, api.OK, 0)
	r.Feed(bytes.Repeat([]byte("\n"), 1000000))
	r.Feed([]byte("a"))
	read(t, r, nil, false, api.OK, 1)
	r.Feed([]byte("\n\n*0\r\n"))
	read(t, r, []string{"a"}, true, api.OK, 5)
	read(t, r, nil, false, api.ErrFrame, 4)
}

// P6.2: from what is none on, there is none, whatever is fed.
func TestReaderNone(t *testing.T) {
	for _, none := range []string{"*0\r\n", "*x\r\n", "*1\n", "*1\r\n$513\r\n", "*1\r\n$1\r\nabc", strings.Repeat("x", 600), strings.Repeat("a ", 33) + "\n"} {
		r := frame.New()
		r.Feed([]byte("PING\n\r\n" + none))
		read(t, r, []string{"PING"}, true, api.OK, 2+len(none))
		left := len(none)
		read(t, r, nil, false, api.ErrFrame, left)
		for _, more := range []string{"", "\r\n", "PING\r\n", "*1\r\n$4\r\nPING\r\n", strings.Repeat("\n", 700)} {
			r.Feed([]byte(more))
			left += len(more)
			read(t, r, nil, false, api.ErrFrame, left)
			read(t, r, nil, false, api.ErrFrame, left)
		}
	}
}

// P6.2: two readers have nothing in common, and bytes that are fed are theirs (R7).
func TestReaderIsItsOwn(t *testing.T) {
	r, other := frame.New(), frame.New()
	b := append(make([]byte, 0, 100), "*2\r\n$1\r\na\r\n"...)
	r.Feed(b)
	other.Feed(b)
	rest := append(b, "$1\r\nb\r\n"...)[len(b):]
	r.Feed(rest)
	for i := range b[:cap(b)] {
		b[:cap(b)][i] = '!'
	}
	other.Feed([]byte("$1\r\nc\r\nd\n"))
	read(t, r, []string{"a", "b"}, true, api.OK, 0)
	r.Feed([]byte("e\n"))
	read(t, other, []string{"a", "c"}, true, api.OK, 2)
	read(t, other, []string{"d"}, true, api.OK, 0)
	l, _, _ := r.Next()
	r.Feed([]byte("fff f\n"))
	if again, _, _ := r.Next(); !slices.Equal(l, []string{"e"}) || !slices.Equal(again, []string{"fff", "f"}) {
		t.Errorf("%q, %q", l, again)
	}
}

// P6.1, R7: the words of a request stay when its bytes are changed, and these are not changed.
func TestNextIsItsOwn(t *testing.T) {
	for _, s := range []string{"set a b\r\n", "*2\r\n$3\r\nset\r\n$1\r\na\r\n"} {
		b := append(make([]byte, 0, 100), s...)
		l, _, _ := frame.Next(b)
		again, _, _ := frame.Next(b)
		if string(b) != s {
			t.Errorf("%q became %q", s, b)
		}
		for i := range b {
			b[i] = '!'
		}
		want, _, _ := frame.Next([]byte(s))
		_ = append(l, "more")
		l[1] = "other"
		if !slices.Equal(again, want) || l[0] != want[0] {
			t.Errorf("Next of %q: %q, %q", s, l, again)
		}
	}
}

// P6.3
func TestPut(t *testing.T) {
	for want, l := range map[string][]string{
		"*1\r\n$4\r\nPING\r\n":                     {"PING"},
		"*3\r\n$3\r\nset\r\n$1\r\na\r\n$0\r\n\r\n": {"set", "a", ""},
		"*1\r\n$4\r\n\r\n\r\n\r\n":                 {"\r\n\r\n"},
		"*2\r\n$2\r\n\u00e9\r\n$2\r\n\xff\x00\r\n": {"\u00e9", "\xff\x00"},
		"*1\r\n$10\r\n0123456789\r\n":              {"0123456789"},
	} {
		if got := frame.Put(l...); string(got) != want {
			t.Errorf("Put(%q) = %q, not %q", l, got, want)
		}
	}
	long := strings.Repeat("z", 512)
	if got := frame.Put(slices.Repeat([]string{long}, 32)...); string(got) != "*32\r\n"+strings.Repeat("$512\r\n"+long+"\r\n", 32) {
		t.Errorf("Put of 32 long words = %.80q", got)
	}
	first, second := frame.Put("a"), frame.Put("a")
	for i := range first {
		first[i] = '!'
	}
	if string(second) != "*1\r\n$1\r\na\r\n" || string(frame.Put("a")) != string(second) {
		t.Errorf("Put = %q", second)
	}
}

// readAll feeds the pieces, and reads all that comes, behind each of them or just at the end.
func readAll(pieces []string, atOnce bool) (all [][]string, left int, err api.Errno) {
	r := frame.New()
	for i, p := range pieces {
		r.Feed([]byte(p))
		for atOnce || i == len(pieces)-1 {
			l, ok, e := r.Next()
			if !ok {
				err = e
				break
			}
			all = append(all, l)
		}
	}
	return all, r.Left(), err
}

func same(a, b [][]string) bool {
	return slices.EqualFunc(a, b, func(x, y []string) bool { return slices.Equal(x, y) })
}

// P6.4: however the bytes are cut, the same is read.
func TestCuts(t *testing.T) {
	for _, b := range []string{
		"PING\r\n\r\n*2\r\n$3\r\nget\r\n$3\r\n\r\na\r\n  x  y\n*1\r\n$2\r\nz", "\n\n*1\r\n$1\r\na\r\n*1\n$1\r\na\r\nPING\r\n", "a\r\n" + strings.Repeat("b ", 32) + "\r\n*1\r\n$01\r\n",
	} {
		want, left, err := readAll([]string{b}, true)
		check := func(pieces ...string) {
			for _, atOnce := range []bool{true, false} {
				if got, l, e := readAll(pieces, atOnce); !same(got, want) || l != left || e != err {
					t.Fatalf("%q: %q, %d, %d, not %q, %d, %d", pieces, got, l, e, want, left, err)
				}
			}
		}
		check(strings.Split(b, "")...)
		for i := range len(b) + 1 {
			for j := i; j <= len(b); j++ {
				check(b[:i], b[i:j], b[j:])
			}
		}
	}
}

// P6.4: what was put is read.
func TestPutIsRead(t *testing.T) {
	chance := rand.New(rand.NewSource(64))
	for range 300 {
		var put [][]string
		var b []byte
		for range 1 + chance.Intn(5) {
			l := make([]string, 1+chance.Intn(32))
			for i := range l {
				w := make([]byte, []int{chance.Intn(4), chance.Intn(513), 512}[chance.Intn(3)])
				for j := range w {
					w[j] = []byte{'\r', '\n', '*', '$', ' ', '1', byte(chance.Intn(256))}[chance.Intn(7)]
				}
				l[i] = string(w)
			}
			put = append(put, l)
			b = append(b, frame.Put(l...)...)
		}
		var pieces []string
		for left := string(b); left != ""; {
			n := min(len(left), 1+chance.Intn(2000))
			pieces = append(pieces, left[:n])
			left = left[n:]
		}
		if got, left, err := readAll(pieces, chance.Intn(2) == 0); !same(got, put) || left != 0 || err != api.OK {
			t.Fatalf("what was put is not read: %d of %d requests, %d bytes left, %d", len(got), len(put), left, err)
		}
	}
}
