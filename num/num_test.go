package num_test

import (
	"math"
	"math/big"
	"strconv"
	"strings"
	"testing"

	"tipstaff/num"
)

// edges are numbers at which digits, signs or sums turn over.
func edges() []int {
	l := []int{0, math.MaxInt, math.MaxInt - 1, math.MinInt, math.MinInt + 1, math.MaxInt32, math.MinInt32, math.MaxInt / 2, math.MinInt / 2}
	for i, n := 0, 1; i < 19; i, n = i+1, n*10 {
		l = append(l, n, -n, n-1, 1-n, n+1, -n-1, 7*n)
	}
	for i := 0; i < 63; i++ {
		l = append(l, 1<<i, -1<<i)
	}
	return l
}

// P1.1
func TestText(t *testing.T) {
	for n, want := range map[int]string{
		0: "0", 1: "1", -1: "-1", 9: "9", 10: "10", -10: "-10", 42: "42", 100: "100", 1005: "1005", -7000: "-7000",
		math.MaxInt: "9223372036854775807", math.MinInt: "-9223372036854775808",
	} {
		if got := num.Text(n); got != want {
			t.Errorf("Text(%d) = %q", n, got)
		}
	}
	for _, n := range edges() {
		if got, want := num.Text(n), big.NewInt(int64(n)).String(); got != want {
			t.Errorf("Text(%d) = %q", n, got)
		}
	}
}

// P1.1
func TestParse(t *testing.T) {
	for s, want := range map[string]int{
		"0": 0, "7": 7, "-7": -7, "10": 10, "-10": -10, "1000000": 1000000,
		"9223372036854775807": math.MaxInt, "9223372036854775806": math.MaxInt - 1,
		"-9223372036854775808": math.MinInt, "-9223372036854775807": math.MinInt + 1,
	} {
		if n, ok := num.Parse(s); n != want || !ok {
			t.Errorf("Parse(%q) = %d, %v", s, n, ok)
		}
	}
}

// P1.1
func TestParseOfNone(t *testing.T) {
	for _, s := range []string{
		"", "-", "+", "--1", "-0", "+0", "+5", "-+5", "00", "007", "-01", "01",
		" 1", "1 ", "1\n", "\r1", "1\x00", "\x001", "- 1", "1-", "1-2", "1.0", "1e3", "1E3", "0x1", "0b1", "0o7", "1_0", "_1", "1,0",
		"a", "1a", "a1", "nan", "inf", "\u0663", "\xff", "/", ":", "1/", "1:",
		"9223372036854775808", "-9223372036854775809", "9223372036854775810", "18446744073709551616", "18446744073709551617",
		"-18446744073709551615", "10000000000000000000", "-10000000000000000000", "99999999999999999999", "09223372036854775807",
		strings.Repeat("1", 1000), "-" + strings.Repeat("9", 1000), strings.Repeat("0", 1000), strings.Repeat("-", 1000),
	} {
		if n, ok := num.Parse(s); n != 0 || ok {
			t.Errorf("Parse(%q) = %d, %v", s, n, ok)
		}
	}
}

// P1.3
func TestToldIsTaken(t *testing.T) {
	for _, n := range edges() {
		if got, ok := num.Parse(num.Text(n)); got != n || !ok {
			t.Errorf("Parse(Text(%d)) = %d, %v", n, got, ok)
		}
	}
	for n := -20000; n <= 20000; n++ {
		if got, ok := num.Parse(num.Text(n)); got != n || !ok {
			t.Fatalf("Parse(Text(%d)) = %d, %v", n, got, ok)
		}
	}
}

// P1.3: of all short texts those that were told are taken, and no other one.
func TestNothingElseIsTaken(t *testing.T) {
	told := map[string]int{}
	for n := -999; n <= 9999; n++ {
		told[strconv.Itoa(n)] = n
	}
	const bytes = "0123456789-+ _.xe\x00\n/:"
	var try func(s string)
	try = func(s string) {
		want, isTold := told[s]
		if n, ok := num.Parse(s); n != want || ok != isTold {
			t.Errorf("Parse(%q) = %d, %v", s, n, ok)
		}
		if len(s) < 4 {
			for i := range len(bytes) {
				try(s + bytes[i:i+1])
			}
		}
	}
	try("")
	for a := range 256 {
		for b := range 256 {
			s := string([]byte{byte(a), byte(b)})
			want, isTold := told[s]
			if n, ok := num.Parse(s); n != want || ok != isTold {
				t.Errorf("Parse(%q) = %d, %v", s, n, ok)
			}
		}
	}
}

// P1.3: a byte that is changed, put in or left out makes another number, or none.
func TestDigitsChanged(t *testing.T) {
	for _, n := range edges() {
		s := num.Text(n)
		for i := range len(s) + 1 {
			for c := range 256 {
				checkTold(t, s[:i]+string([]byte{byte(c)})+s[i:])
				if i < len(s) {
					checkTold(t, s[:i]+string([]byte{byte(c)})+s[i+1:])
				}
			}
			if i < len(s) {
				checkTold(t, s[:i]+s[i+1:])
			}
		}
	}
}

func checkTold(t *testing.T, s string) {
	t.Helper()
	want, isTold := 0, false
	if n, ok := new(big.Int).SetString(s, 10); ok && n.IsInt64() && n.String() == s {
		want, isTold = int(n.Int64()), true
	}
	if n, ok := num.Parse(s); n != want || ok != isTold {
		t.Errorf("Parse(%q) = %d, %v", s, n, ok)
	}
}

// P1.2
func TestAdd(t *testing.T) {
	for _, x := range []struct {
		a, b, want int
		ok         bool
	}{
		{0, 0, 0, true}, {2, 3, 5, true}, {2, -3, -1, true}, {-2, -3, -5, true},
		{math.MaxInt, 0, math.MaxInt, true}, {0, math.MinInt, math.MinInt, true},
		{math.MaxInt - 1, 1, math.MaxInt, true}, {math.MinInt + 1, -1, math.MinInt, true},
		{math.MaxInt, math.MinInt, -1, true}, {math.MaxInt, -math.MaxInt, 0, true},
		{math.MaxInt, 1, 0, false}, {1, math.MaxInt, 0, false}, {math.MaxInt, math.MaxInt, 0, false},
		{math.MinInt, -1, 0, false}, {-1, math.MinInt, 0, false}, {math.MinInt, math.MinInt, 0, false},
		{1 << 62, 1 << 62, 0, false}, {-1 << 62, -1 << 62, math.MinInt, true}, {-1 << 62, -1<<62 - 1, 0, false},
	} {
		if n, ok := num.Add(x.a, x.b); n != x.want || ok != x.ok {
			t.Errorf("Add(%d, %d) = %d, %v", x.a, x.b, n, ok)
		}
	}
}

// P1.2
func TestAddOfEdges(t *testing.T) {
	for _, a := range edges() {
		for _, b := range edges() {
			sum, want := new(big.Int).Add(big.NewInt(int64(a)), big.NewInt(int64(b))), 0
			if sum.IsInt64() {
				want = int(sum.Int64())
			}
			if n, ok := num.Add(a, b); n != want || ok != sum.IsInt64() {
				t.Errorf("Add(%d, %d) = %d, %v", a, b, n, ok)
			}
		}
	}
}

// P1.2
func TestLower(t *testing.T) {
	for s, want := range map[string]string{
		"": "", "aB1": "ab1", "GET": "get", "AZ": "az", "az": "az", "@[`{": "@[`{", "A B\x00C": "a b\x00c",
		"\u00c4\u0130\u212a": "\u00c4\u0130\u212a", "\xc1\xffA\xda": "\xc1\xffa\xda",
	} {
		if got := num.Lower(s); got != want {
			t.Errorf("Lower(%q) = %q", s, got)
		}
	}
	for c := range 256 {
		want := byte(c)
		if i := strings.IndexByte("ABCDEFGHIJKLMNOPQRSTUVWXYZ", byte(c)); i >= 0 {
			want = "abcdefghijklmnopqrstuvwxyz"[i]
		}
		if got := num.Lower(string([]byte{byte(c), 'Q', byte(c)})); got != string([]byte{want, 'q', want}) {
			t.Errorf("Lower of the byte %d = %q", c, got)
		}
	}
}

// P1.2
func TestWord(t *testing.T) {
	for s, want := range map[string]bool{
		"": false, "a": true, "a!~": true, "!": true, "~": true, "a b": false, " a": false, "a ": false, "a\x7f": false, "\x7fa": false,
		"a\x00": false, "a\n": false, "\u00e4": false, "a\u00e4": false, "\xff": false, strings.Repeat("x", 1000): true, strings.Repeat("x", 1000) + " ": false,
	} {
		if got := num.Word(s); got != want {
			t.Errorf("Word(%q) = %v", s, got)
		}
	}
	for c := range 256 {
		want := c >= 33 && c <= 126
		for _, s := range []string{string([]byte{byte(c)}), string([]byte{'x', byte(c), 'x'})} {
			if got := num.Word(s); got != want {
				t.Errorf("Word(%q) = %v", s, got)
			}
		}
	}
}

// P1.2
func TestPart(t *testing.T) {
	for _, x := range []struct {
		many     int
		a, b     string
		from, to int
	}{
		{5, "0", "-1", 0, 5}, {5, "0", "0", 0, 1}, {5, "4", "4", 4, 5}, {5, "1", "3", 1, 4}, {5, "-5", "-5", 0, 1},
		{5, "-2", "9", 3, 5}, {5, "-9", "0", 0, 1}, {5, "-9", "9", 0, 5}, {5, "-6", "-5", 0, 1}, {5, "3", "5", 3, 5},
		{5, "3", "1", 0, 0}, {5, "5", "9", 0, 0}, {5, "-9", "-6", 0, 0}, {5, "-1", "-2", 0, 0}, {5, "9", "-9", 0, 0},
		{1, "0", "-1", 0, 1}, {1, "-1", "0", 0, 1}, {1, "1", "1", 0, 0},
		{0, "0", "0", 0, 0}, {0, "0", "-1", 0, 0}, {0, "-1", "9", 0, 0},
		{-1, "0", "0", 0, 0}, {-5, "-9", "9", 0, 0}, {-5, "0", "-1", 0, 0},
		{math.MinInt, "-1", "0", 0, 0}, {math.MinInt, "-9223372036854775808", "9223372036854775807", 0, 0}, {math.MinInt, "0", "-1", 0, 0},
		{5, "-9223372036854775808", "9223372036854775807", 0, 5}, {5, "9223372036854775807", "-9223372036854775808", 0, 0},
		{5, "9223372036854775807", "9223372036854775807", 0, 0}, {5, "-9223372036854775808", "-9223372036854775808", 0, 0},
		{math.MaxInt, "0", "9223372036854775807", 0, math.MaxInt}, {math.MaxInt, "0", "-1", 0, math.MaxInt},
		{math.MaxInt, "9223372036854775806", "9223372036854775806", math.MaxInt - 1, math.MaxInt},
		{math.MaxInt, "-9223372036854775808", "-9223372036854775807", 0, 1},
	} {
		if from, to, ok := num.Part(x.many, x.a, x.b); from != x.from || to != x.to || !ok {
			t.Errorf("Part(%d, %q, %q) = %d, %d, %v", x.many, x.a, x.b, from, to, ok)
		}
	}
}

// P1.2: a text that is no number is told, whatever the other one is, and however many places there are.
func TestPartOfNoNumber(t *testing.T) {
	for _, many := range []int{5, 1, 0, -1, math.MaxInt, math.MinInt} {
		for _, s := range []string{"", "x", "-0", "+1", "01", "1 ", "9223372036854775808", "-9223372036854775809"} {
			for _, x := range [][2]string{{s, "0"}, {"0", s}, {s, s}, {"-1", s}, {s, "9"}} {
				if from, to, ok := num.Part(many, x[0], x[1]); from != 0 || to != 0 || ok {
					t.Errorf("Part(%d, %q, %q) = %d, %d, %v", many, x[0], x[1], from, to, ok)
				}
			}
		}
	}
}

// P1.2: the places that are told are looked for one by one.
func TestPartPlaceByPlace(t *testing.T) {
	for many := -3; many <= 7; many++ {
		for a := -10; a <= 10; a++ {
			for b := -10; b <= 10; b++ {
				wantFrom, wantTo := 0, 0
				for i := range max(many, 0) {
					if i < counted(many, a) || i > counted(many, b) {
						continue
					}
					if wantTo == 0 {
						wantFrom = i
					}
					wantTo = i + 1
				}
				if from, to, ok := num.Part(many, strconv.Itoa(a), strconv.Itoa(b)); from != wantFrom || to != wantTo || !ok {
					t.Errorf("Part(%d, %d, %d) = %d, %d, %v", many, a, b, from, to, ok)
				}
			}
		}
	}
}

func counted(many, place int) int {
	if place < 0 {
		return place + many
	}
	return place
}
