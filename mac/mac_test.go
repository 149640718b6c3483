package mac_test

import (
	"bytes"
	"crypto/hmac"
	"crypto/pbkdf2"
	"crypto/sha256"
	"encoding/hex"
	"math"
	"strconv"
	"strings"
	"testing"

	"tipstaff/api"
	"tipstaff/mac"
)

// row is a row of n bytes without a short pattern, another one for each seed.
func row(n int, seed uint32) []byte {
	b, x := make([]byte, n), seed*2654435761+1
	for i := range b {
		x = x*1664525 + 1013904223
		b[i] = byte(x >> 24)
	}
	return b
}

func libraryMac(key, msg []byte) [32]byte {
	h := hmac.New(sha256.New, key)
	h.Write(msg)
	return [32]byte(h.Sum(nil))
}

func libraryDerive(t *testing.T, pass, salt []byte, rounds int) [32]byte {
	t.Helper()
	b, err := pbkdf2.Key(sha256.New, string(pass), salt, rounds, 32)
	if err != nil {
		t.Fatal(err)
	}
	return [32]byte(b)
}

func unhex(t *testing.T, s string) []byte {
	t.Helper()
	b, err := hex.DecodeString(s)
	if err != nil {
		t.Fatal(err)
	}
	return b
}

// record is written by the library, also where there is none, so that just the bound that is tried is broken.
func record(t *testing.T, pass string, salt []byte, rounds int) string {
	t.Helper()
	sum := libraryDerive(t, []byte(pass), salt, rounds)
	return strconv.Itoa(rounds) + ":" + hex.EncodeToString(salt) + ":" + hex.EncodeToString(sum[:])
}

// P3.1: the sums of RFC 4231, and that of nothing.
func TestMacKnown(t *testing.T) {
	for i, x := range []struct{ key, msg, want string }{
		{"", "", "b613679a0814d9ec772f95d778c35fc5ff1697c493715653c6c712144292c5ad"},
		{strings.Repeat("\x0b", 20), "Hi There", "b0344c61d8db38535ca8afceaf0bf12b881dc200c9833da726e9376c2e32cff7"},
		{"Jefe", "what do ya want for nothing?", "5bdcc146bf60754e6a042426089575c75a003f089d2739839dec58b964ec3843"},
		{strings.Repeat("\xaa", 20), strings.Repeat("\xdd", 50), "773ea91e36800e46854db8ebd09181a72959098b3ef8c122d9635514ced565fe"},
		{strings.Repeat("\xaa", 131), "Test Using Larger Than Block-Size Key - Hash Key First", "60e431591ee0b67f0d8a26aacbf5b77f8e0bc6213728c5140546040f0ee37f54"},
		{strings.Repeat("\xaa", 131), "This is a test using a larger than block-size key and a larger than block-size data. The key needs to be hashed before being used by the HMAC algorithm.", "9b09ffa71b942fcb27635fbcd5b0e944bfdc63644f0713938a7f51535c3a35e2"},
	} {
		if got := mac.Mac([]byte(x.key), []byte(x.msg)); hex.EncodeToString(got[:]) != x.want {
			t.Errorf("%d: Mac = %x", i, got)
		}
	}
	if mac.Mac(nil, nil) != mac.Mac([]byte{}, []byte{}) {
		t.Error("no bytes and no row are unlike")
	}
}

// P3.1: the sums, made as the chapter says it, of keys on both sides of 64 bytes.
func TestMacAsTheChapterSays(t *testing.T) {
	for _, n := range []int{0, 1, 31, 32, 33, 63, 64, 65, 66, 127, 128, 129, 300} {
		key, msg := row(n, uint32(n)), row(n+7, 9)
		k := bytes.Clone(key)
		if n > 64 {
			sum := sha256.Sum256(key)
			k = sum[:]
		}
		for len(k) < 64 {
			k = append(k, 0)
		}
		var outer, inner []byte
		for _, c := range k {
			outer, inner = append(outer, c^92), append(inner, c^54)
		}
		first := sha256.Sum256(append(inner, msg...))
		if got, want := mac.Mac(key, msg), sha256.Sum256(append(outer, first[:]...)); got != want {
			t.Errorf("Mac with a key of %d bytes = %x, not %x", n, got, want)
		}
	}
}

// P3.1: each length of the key, and lengths of what is summed at which a block more begins.
func TestMacOfEachLength(t *testing.T) {
	for n := range 200 {
		for _, m := range []int{0, 1, 54, 55, 56, 63, 64, 65, 119, 120, 500} {
			key, msg := row(n, uint32(m)), row(m, uint32(n))
			if got, want := mac.Mac(key, msg), libraryMac(key, msg); got != want {
				t.Errorf("Mac with %d and %d bytes = %x, not %x", n, m, got, want)
			}
		}
	}
}

// P3.1: a key and the same with bytes 0 behind it are one key, up to 64 bytes, and no further.
func TestMacFillsTheKey(t *testing.T) {
	msg := []byte("msg")
	for n := range 64 {
		key := row(n, 3)
		filled := append(bytes.Clone(key), make([]byte, 64-n)...)
		if mac.Mac(key, msg) != mac.Mac(filled, msg) {
			t.Errorf("a key of %d bytes, and that with bytes 0 behind, are unlike", n)
		}
		if mac.Mac(key, msg) == mac.Mac(append(filled, 0), msg) {
			t.Errorf("a key of %d bytes, and that with bytes 0 up to the 65th, are the same", n)
		}
	}
	long := row(65, 3)
	sum := sha256.Sum256(long)
	if mac.Mac(long, msg) != mac.Mac(sum[:], msg) || mac.Mac(long[:64], msg) == mac.Mac(long, msg) {
		t.Error("a key of 65 bytes is not its sum")
	}
}

// P3.1: each single bit of the key and of what is summed tells.
func TestMacOfSingleBits(t *testing.T) {
	seen := map[[32]byte]bool{}
	for bit := range 8 * 64 {
		b := make([]byte, 64)
		b[bit/8] = 1 << (bit % 8)
		for _, got := range [][32]byte{mac.Mac(b, []byte("m")), mac.Mac([]byte("k"), b)} {
			if seen[got] {
				t.Errorf("the bit %d is not told", bit)
			}
			seen[got] = true
		}
	}
}

// P3.2: sums that are known elsewhere, and their first block's bytes.
func TestDeriveKnown(t *testing.T) {
	for i, x := range []struct {
		pass, salt string
		rounds     int
		want       string
	}{
		{"password", "salt", 1, "120fb6cffcf8b32c43e7225256c4f837a86548c92ccc35480805987cb70be17b"},
		{"password", "salt", 2, "ae4d0c95af6b46d32d0adff928f06dd02a303f8ef3c251dfd6e2d85a95474c43"},
		{"passwd", "salt", 1, "55ac046e56e3089fec1691c22544b605f94185216dde0465e68b9d57c20dacbc"},
	} {
		if got := mac.Derive([]byte(x.pass), []byte(x.salt), x.rounds); hex.EncodeToString(got[:]) != x.want {
			t.Errorf("%d: Derive = %x", i, got)
		}
	}
}

// P3.2: the rounds, made one by one as the chapter says it.
func TestDeriveAsTheChapterSays(t *testing.T) {
	for _, n := range []int{0, 1, 8, 32, 64, 65, 100} {
		pass, salt := row(n, 1), row(n/2, 2)
		u := libraryMac(pass, append(bytes.Clone(salt), 0, 0, 0, 1))
		want := u
		for rounds := 1; rounds <= 64; rounds++ {
			if got := mac.Derive(pass, salt, rounds); got != want {
				t.Errorf("Derive of %d bytes with %d rounds = %x, not %x", n, rounds, got, want)
			}
			u = libraryMac(pass, u[:])
			for i := range want {
				want[i] ^= u[i]
			}
		}
	}
}

// P3.2: lengths of the password and of the salt, which may be longer than that of a record.
func TestDeriveOfEachLength(t *testing.T) {
	for n := range 140 {
		for _, m := range []int{0, 1, 8, 32, 33, 51, 52, 60, 64, 200} {
			pass, salt := row(n, uint32(m)), row(m, uint32(n))
			rounds := (n+m)%64 + 1
			if got, want := mac.Derive(pass, salt, rounds), libraryDerive(t, pass, salt, rounds); got != want {
				t.Errorf("Derive with %d and %d bytes, %d rounds = %x, not %x", n, m, rounds, got, want)
			}
		}
	}
	if mac.Derive(nil, nil, 3) != mac.Derive([]byte{}, []byte{}, 3) {
		t.Error("no bytes and no row are unlike")
	}
}

// P3.2
func TestDeriveOfRounds(t *testing.T) {
	pass, salt := []byte("pw"), []byte("salt")
	// The great ones come last, and only if the small ones are refused: they would take for ever.
	for _, rounds := range []int{0, -1, -2, -63, -64, 65, 66, 128, 256, 257, math.MinInt, math.MinInt + 1, 1<<32 + 1, math.MaxInt} {
		if got := mac.Derive(pass, salt, rounds); got != [32]byte{} {
			t.Fatalf("Derive with %d rounds = %x", rounds, got)
		}
	}
	for _, rounds := range []int{1, 2, 63, 64} {
		if got := mac.Derive(pass, salt, rounds); got != libraryDerive(t, pass, salt, rounds) {
			t.Errorf("Derive with %d rounds = %x", rounds, got)
		}
	}
}

// P3.1, P3.2: what is handed in stays, also what lies behind it: four bytes more have room there.
func TestArgumentsStay(t *testing.T) {
	for n := range 130 {
		all, other := bytes.Repeat([]byte{0xaa}, n+200), bytes.Repeat([]byte{0xbb}, n+200)
		copy(all, row(n, 7))
		copy(other, row(n, 8))
		wasAll, wasOther := bytes.Clone(all), bytes.Clone(other)
		first, second := mac.Mac(all[:n], other[:n]), mac.Derive(all[:n], other[:n], 5)
		if n <= api.MaxSalt {
			mac.Record("pw", all[:n], 2)
		}
		mac.Same(all[:n], other[:n])
		if !bytes.Equal(all, wasAll) || !bytes.Equal(other, wasOther) {
			t.Fatalf("what was handed in changed, with %d bytes", n)
		}
		if mac.Mac(all[:n], other[:n]) != first || mac.Derive(all[:n], other[:n], 5) != second {
			t.Fatalf("two calls with the same %d bytes are unlike", n)
		}
	}
}

// P3.2
func TestSame(t *testing.T) {
	for _, x := range []struct {
		a, b string
		want bool
	}{
		{"", "", true}, {"a", "a", true}, {"a", "b", false}, {"a", "A", false}, {"", "a", false}, {"a", "", false},
		{"ab", "ab", true}, {"ab", "ba", false}, {"ab", "a", false}, {"a", "ab", false}, {"a", "a\x00", false}, {"a\x00", "a", false},
		{"", "\x00", false}, {"\x00", "\x00\x00", false}, {"abc", "abd", false}, {"xbc", "abc", false}, {"abc", "axc", false},
		{"\x01\x01", "\x02\x02", false}, {"\x01\x02", "\x02\x01", false}, {"\x00\xff", "\xff\x00", false}, {"aa", "bb", false},
		{strings.Repeat("x", 1000), strings.Repeat("x", 1000), true}, {strings.Repeat("x", 1000), strings.Repeat("x", 999), false},
		{strings.Repeat("x", 256), "", false}, {strings.Repeat("x", 257), "x", false},
	} {
		if got := mac.Same([]byte(x.a), []byte(x.b)); got != x.want {
			t.Errorf("Same(%q, %q) = %v", x.a, x.b, got)
		}
	}
	if !mac.Same(nil, nil) || !mac.Same(nil, []byte{}) || !mac.Same([]byte{}, nil) || mac.Same(nil, []byte{0}) || mac.Same([]byte{0}, nil) {
		t.Error("no row is not as no bytes are")
	}
}

// P3.2: each bit of each byte counts, and no two that differ make up for each other.
func TestSameOfSingleBits(t *testing.T) {
	for _, n := range []int{1, 2, 31, 32, 33, 70} {
		a := row(n, 4)
		for bit := range 8 * n {
			b := bytes.Clone(a)
			b[bit/8] ^= 1 << (bit % 8)
			if mac.Same(a, b) || mac.Same(b, a) {
				t.Errorf("of %d bytes the bit %d does not count", n, bit)
			}
			b[n-1-bit/8] ^= 1 << (bit % 8)
			if mac.Same(a, b) != bytes.Equal(a, b) {
				t.Errorf("of %d bytes two bits make up for each other", n)
			}
		}
		if !mac.Same(a, bytes.Clone(a)) || !mac.Same(a, a) {
			t.Errorf("%d bytes are not the same as they are", n)
		}
	}
}

// P3.3
func TestRecord(t *testing.T) {
	for _, x := range []struct {
		pass   string
		salt   []byte
		rounds int
		want   string
	}{
		{"password", []byte("salt"), 1, "1:73616c74:120fb6cffcf8b32c43e7225256c4f837a86548c92ccc35480805987cb70be17b"},
		{"password", []byte("salt"), 2, "2:73616c74:ae4d0c95af6b46d32d0adff928f06dd02a303f8ef3c251dfd6e2d85a95474c43"},
		{"pw", nil, 1, record(t, "pw", nil, 1)}, {"pw", []byte{}, 1, record(t, "pw", nil, 1)}, {"", nil, 1, record(t, "", nil, 1)},
		{"", []byte{0}, 64, record(t, "", []byte{0}, 64)}, {"a:b", []byte(":"), 10, record(t, "a:b", []byte(":"), 10)},
		{"\x00\xff \n", []byte{0, 255, 10}, 63, record(t, "\x00\xff \n", []byte{0, 255, 10}, 63)},
		{strings.Repeat("x", 1000), row(31, 5), 64, record(t, strings.Repeat("x", 1000), row(31, 5), 64)},
		{"pw", row(32, 5), 2, record(t, "pw", row(32, 5), 2)},
	} {
		if got, ok := mac.Record(x.pass, x.salt, x.rounds); got != x.want || !ok {
			t.Errorf("Record(%q, %x, %d) = %q, %v", x.pass, x.salt, x.rounds, got, ok)
		}
	}
	if got, _ := mac.Record("pw", nil, 1); !strings.HasPrefix(got, "1::") || len(got) != 3+64 {
		t.Errorf("Record without a salt = %q", got)
	}
}

// P3.3: each number of rounds, and each length of a salt.
func TestRecordOfEach(t *testing.T) {
	for rounds := -3; rounds <= 70; rounds++ {
		for _, n := range []int{0, 1, 8, 31, 32, 33, 34, 64, 100} {
			salt, want, may := row(n, uint32(n)), "", rounds >= 1 && rounds <= 64 && n <= 32
			if may {
				want = record(t, "pw", salt, rounds)
			}
			if got, ok := mac.Record("pw", salt, rounds); got != want || ok != may {
				t.Errorf("Record with %d bytes of salt and %d rounds = %q, %v", n, rounds, got, ok)
			}
		}
	}
	for _, rounds := range []int{-64, 65, 257, math.MinInt, 1<<32 + 1, math.MaxInt} {
		if got, ok := mac.Record("pw", nil, rounds); got != "" || ok {
			t.Fatalf("Record with %d rounds = %q, %v", rounds, got, ok)
		}
	}
}

// P3.3: of each of these one part is just such as may be, or just none.
func TestRight(t *testing.T) {
	sum := strings.Repeat("0a", 32)
	for _, s := range []string{
		"1::" + sum, "64::" + sum, "10:00:" + sum, "2:ff:" + sum, "9:" + strings.Repeat("5c", 31) + ":" + sum, "33:" + strings.Repeat("5c", 32) + ":" + sum,
		"1::" + strings.Repeat("0", 64), "1::" + strings.Repeat("f", 64), "5:0123456789abcdef:" + strings.Repeat("0123456789abcdef", 4),
	} {
		if !mac.Right(s) {
			t.Errorf("%q is none", s)
		}
	}
	for _, s := range wrong(sum) {
		if mac.Right(s) {
			t.Errorf("%q is one", s)
		}
	}
}

// wrong are texts that are near to a record, and none.
func wrong(sum string) []string {
	l := []string{
		"", ":", "::", ":::", "1", "1:", "1::", "1:" + sum, "1" + sum, "::" + sum, ":00:" + sum, sum, ":" + sum, "1:00" + sum,
		"1::" + sum + ":", "1::" + sum + ":00", ":1::" + sum, "1:::" + sum, "1::" + sum + sum, "1::" + sum + "0a", "1::" + sum + "0", "1::" + sum[1:], "1::" + sum[2:],
		"1::" + strings.ToUpper(sum), "1::" + sum[:63] + "A", "1::" + sum[:63] + "g", "1::0x" + sum[2:], "1::" + sum[:62] + "  ",
		"1:0:" + sum, "1:000:" + sum, "1:0g:" + sum, "1:0A:" + sum, "1:FF:" + sum, "1: :" + sum, "1:  :" + sum, "1:0x00:" + sum, "1:00:00:" + sum,
		"1::" + sum + " ", " 1::" + sum, "1 ::" + sum, "1: :" + sum, "1:: " + sum, "1::" + sum + "\n", "1::" + sum + "\r\n", "\n1::" + sum, "1::" + sum + "\x00", "#1::" + sum,
		"1;;" + sum, "1::" + sum[:32] + ":" + sum[32:], "1/00/" + sum, "1:" + sum + ":", "1:" + sum + ":" + sum + ":" + sum,
	}
	for _, rounds := range []string{"0", "-1", "-0", "+1", "01", "001", "00", "65", "66", "100", "640", "1.0", "1e1", "0x1", "a", "f", "-", "-64", "9223372036854775807", "-9223372036854775808", "9223372036854775808", "18446744073709551617", strings.Repeat("1", 100)} {
		l = append(l, rounds+"::"+sum, rounds+":00:"+sum)
	}
	for _, n := range []int{33, 34, 64, 100} {
		l = append(l, "1:"+strings.Repeat("00", n)+":"+sum)
	}
	for _, n := range []int{0, 1, 16, 31, 33, 64} {
		l = append(l, "1::"+strings.Repeat("00", n), "1:00:"+strings.Repeat("00", n))
	}
	return l
}

// P3.3: all texts of one byte, and a record in which one byte is another one, are taken where all parts may be.
func TestRightOfBytesChanged(t *testing.T) {
	s := record(t, "pw", []byte("sa"), 12)
	may := func(s string) bool {
		l := strings.Split(s, ":")
		if len(l) != 3 || len(l[1]) > 64 || len(l[2]) != 64 || len(l[1])%2 != 0 || strings.Trim(l[1]+l[2], "0123456789abcdef") != "" {
			return false
		}
		n, err := strconv.Atoi(l[0])
		return err == nil && n >= 1 && n <= 64 && strconv.Itoa(n) == l[0]
	}
	for c := range 256 {
		byteOf := string([]byte{byte(c)})
		if mac.Right(byteOf) || mac.Check(byteOf, "pw") {
			t.Errorf("%q is a record", byteOf)
		}
		for i := range len(s) + 1 {
			l := []string{s[:i] + byteOf + s[i:]}
			if i < len(s) {
				l = append(l, s[:i]+byteOf+s[i+1:], s[:i]+s[i+1:])
			}
			for _, changed := range l {
				if got := mac.Right(changed); got != may(changed) {
					t.Errorf("Right(%q) = %v", changed, got)
				}
			}
		}
	}
}

// P3.3: what is no record lets nobody pass, also where the last part is what Derive tells of the others.
func TestCheckOfNoRecord(t *testing.T) {
	nought := strings.Repeat("00", 32)
	l := append(wrong(nought), wrong(record(t, "pw", nil, 1)[3:])...)
	l = append(l, record(t, "pw", row(33, 1), 1), record(t, "pw", row(64, 1), 64), record(t, "pw", nil, 65), record(t, "pw", []byte("s"), 100),
		"0"+record(t, "pw", nil, 1), "+"+record(t, "pw", nil, 1), strings.ToUpper(record(t, "pw", []byte("salz"), 1)), record(t, "pw", nil, 1)+" ", "pw")
	for _, s := range l {
		for _, pass := range []string{"", "pw", s} {
			if mac.Check(s, pass) {
				t.Errorf("Check(%q, %q) is true", s, pass)
			}
		}
	}
	for _, rounds := range []string{"0", "65", "-1"} {
		if mac.Check(rounds+":00:"+nought, "pw") {
			t.Errorf("the sum of %s rounds lets pass", rounds)
		}
	}
}

// P3.3: no part of a record may be another one: neither rounds, nor the salt, nor any bit of the sum.
func TestCheckOfAnotherRecord(t *testing.T) {
	s := record(t, "pw", []byte("salt"), 7)
	if !mac.Check(s, "pw") {
		t.Errorf("Check(%q) is false", s)
	}
	l := strings.Split(s, ":")
	for rounds := 1; rounds <= 64; rounds++ {
		if got := mac.Check(strconv.Itoa(rounds)+":"+l[1]+":"+l[2], "pw"); got != (rounds == 7) {
			t.Errorf("with %d rounds Check = %v", rounds, got)
		}
	}
	for _, salt := range []string{"", "73", "73616c", "73616c7400", "73616c75", "0073616c74", "746c6173"} {
		if mac.Check(l[0]+":"+salt+":"+l[2], "pw") {
			t.Errorf("with the salt %s Check is true", salt)
		}
	}
	sum := unhex(t, l[2])
	for bit := range 256 {
		sum[bit/8] ^= 1 << (bit % 8)
		if mac.Check(l[0]+":"+l[1]+":"+hex.EncodeToString(sum), "pw") {
			t.Errorf("with another bit %d Check is true", bit)
		}
		sum[bit/8] ^= 1 << (bit % 8)
	}
	if mac.Check(l[0]+":"+l[1]+":"+strings.Repeat("00", 32), "pw") || mac.Check(l[0]+":"+l[2][:8]+":"+l[2], "pw") {
		t.Error("a sum that is none of the password's lets pass")
	}
}

// P3.4: who has the password passes, and who has another one does not.
func TestWhoHasThePasswordPasses(t *testing.T) {
	passes := []string{"", "p", "pw", "pW", "PW", "wp", "pw ", " pw", "pww", "pw:", ":pw", "1::00", "\xff", "\u00e4", "a\x00b", "pw\n",
		strings.Repeat("x", 63), strings.Repeat("x", 64), strings.Repeat("x", 65), strings.Repeat("x", 66), strings.Repeat("x", 512), strings.Repeat("x", 511) + "y"}
	for _, salt := range [][]byte{nil, {}, {0}, []byte("salt"), row(8, 1), row(31, 2), row(32, 3)} {
		for i, pass := range passes {
			rounds := (i*13+len(salt))%64 + 1
			s, ok := mac.Record(pass, salt, rounds)
			if !ok || !mac.Right(s) || s != record(t, pass, salt, rounds) {
				t.Fatalf("Record(%q, %x, %d) = %q, %v", pass, salt, rounds, s, ok)
			}
			for _, other := range passes {
				if got := mac.Check(s, other); got != (other == pass) {
					t.Errorf("Check(%q, %q), of %q, = %v", s, other, pass, got)
				}
			}
		}
	}
}

// P3.4: with each number of rounds.
func TestWhoHasThePasswordPassesEachRound(t *testing.T) {
	for rounds := 1; rounds <= api.MaxRounds; rounds++ {
		s, ok := mac.Record("pw", row(rounds/2, uint32(rounds)), rounds)
		if !ok || !mac.Right(s) || !mac.Check(s, "pw") || mac.Check(s, "pv") || mac.Check(s, "") || mac.Check(s, s) {
			t.Errorf("with %d rounds: %q, %v", rounds, s, ok)
		}
	}
}

// P3.4: a record is the same one each time, and another one with another password, salt or number of rounds.
func TestRecordsAreUnlike(t *testing.T) {
	seen := map[string]bool{}
	for _, pass := range []string{"", "a", "b", "ab", "ba"} {
		for _, salt := range []string{"", "a", "b", "ab", "ba"} {
			for _, rounds := range []int{1, 2, 3, 64} {
				s, _ := mac.Record(pass, []byte(salt), rounds)
				again, _ := mac.Record(pass, []byte(salt), rounds)
				sum := s[strings.LastIndex(s, ":")+1:]
				if s != again || seen[sum] {
					t.Errorf("Record(%q, %q, %d) = %q, then %q", pass, salt, rounds, s, again)
				}
				seen[sum] = true
			}
		}
	}
}

// P3.3: Derive alone tells who passes, and to it a password and the same with bytes 0 behind it are one key.
func TestCheckGoesByDerive(t *testing.T) {
	s := record(t, "pw", []byte("salt"), 3)
	for _, pass := range []string{"pw\x00", "\x00pw", "p\x00w", "pw" + strings.Repeat("\x00", 62), "pw" + strings.Repeat("\x00", 63)} {
		want := libraryDerive(t, []byte(pass), []byte("salt"), 3) == libraryDerive(t, []byte("pw"), []byte("salt"), 3)
		if got := mac.Check(s, pass); got != want {
			t.Errorf("Check(%q, %q) = %v", s, pass, got)
		}
	}
}
