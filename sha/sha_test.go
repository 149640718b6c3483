package sha_test

import (
	"bytes"
	"crypto/sha256"
	"encoding/binary"
	"encoding/hex"
	"math/big"
	"strings"
	"testing"

	"tipstaff/sha"
)

// row is a row of n bytes without a short pattern, another one for each seed.
func row(n int, seed uint32) []byte {
	b, x := make([]byte, n), seed*2654435761+1
	for i := range b {
		x = x*1664525 + 1013904223
		b[i] = byte(x >> 24)
	}
	return b
}

// primes are the first n.
func primes(n int) []int64 {
	var l []int64
	for p := int64(2); len(l) < n; p++ {
		if big.NewInt(p).ProbablyPrime(0) {
			l = append(l, p)
		}
	}
	return l
}

// behindPoint is the first 32 bits behind the point of the root of that degree, found bit by bit in whole numbers.
func behindPoint(prime, degree int64) uint32 {
	scaled := new(big.Int).Lsh(big.NewInt(prime), uint(32*degree))
	root := new(big.Int)
	for bit := 40; bit >= 0; bit-- {
		more := new(big.Int).SetBit(root, bit, 1)
		if new(big.Int).Exp(more, big.NewInt(degree), nil).Cmp(scaled) <= 0 {
			root = more
		}
	}
	return uint32(root.Uint64())
}

func xor(l ...uint32) uint32 {
	var x uint32
	for _, n := range l {
		x ^= n
	}
	return x
}

func turned(x uint32, n int) uint32 {
	for range n {
		x = x>>1 | x&1<<31
	}
	return x
}

// bySaying is the sum, made as the chapter says it, step by step, from the roots on.
func bySaying(b []byte) [32]byte {
	var first [8]uint32
	var k [64]uint32
	for i, p := range primes(64) {
		k[i] = behindPoint(p, 3)
		if i < 8 {
			first[i] = behindPoint(p, 2)
		}
	}
	all := append(bytes.Clone(b), 128)
	for len(all)%64 != 56 {
		all = append(all, 0)
	}
	all = binary.BigEndian.AppendUint64(all, uint64(len(b))*8)
	for ; len(all) > 0; all = all[64:] {
		var w [64]uint32
		for i := range w {
			if i < 16 {
				w[i] = binary.BigEndian.Uint32(all[4*i:])
				continue
			}
			x, y := w[i-15], w[i-2]
			w[i] = xor(turned(x, 7), turned(x, 18), x>>3) + w[i-7] + xor(turned(y, 17), turned(y, 19), y>>10) + w[i-16]
		}
		a, b, c, d, e, f, g, h := first[0], first[1], first[2], first[3], first[4], first[5], first[6], first[7]
		for i := range 64 {
			t := h + xor(turned(e, 6), turned(e, 11), turned(e, 25)) + xor(e&f, ^e&g) + k[i] + w[i]
			u := xor(turned(a, 2), turned(a, 13), turned(a, 22)) + xor(a&b, a&c, b&c)
			h, g, f, e, d, c, b, a = g, f, e, d+t, c, b, a, t+u
		}
		for i, x := range []uint32{a, b, c, d, e, f, g, h} {
			first[i] += x
		}
	}
	var sum [32]byte
	for i, x := range first {
		binary.BigEndian.PutUint32(sum[4*i:], x)
	}
	return sum
}

// P2.1: the words, how they are turned, and the constants out of roots, give the sum.
func TestSumAsTheChapterSays(t *testing.T) {
	for n := range 140 {
		b := row(n, uint32(n))
		if got, want := sha.Sum(b), bySaying(b); got != want {
			t.Errorf("Sum of %d bytes = %x, not %x", n, got, want)
		}
	}
}

// P2.2: sums that are known, and the chapter's examples.
func TestSumKnown(t *testing.T) {
	for s, want := range map[string]string{
		"":    "e3b0c44298fc1c149afbf4c8996fb92427ae41e4649b934ca495991b7852b855",
		"a":   "ca978112ca1bbdcafac231b39a23dc4da786eff8147c4e72b9807785afee48bb",
		"abc": "ba7816bf8f01cfea414140de5dae2223b00361a396177a9cb410ff61f20015ad",
		"abcdbcdecdefdefgefghfghighijhijkijkljklmklmnlmnomnopnopq":                                                         "248d6a61d20638b8e5c026930c3e6039a33ce45964ff2167f6ecedd419db06c1",
		"abcdefghbcdefghicdefghijdefghijkefghijklfghijklmghijklmnhijklmnoijklmnopjklmnopqklmnopqrlmnopqrsmnopqrstnopqrstu": "cf5b16a778af8380036ce59e7b0492370b249b11e8f07a51afac45037afee9d1",
		strings.Repeat("a", 1000000): "cdc76e5c9914fb9281a1c7e284d73e67f1809a48a497200e046d39ccc7112cd0",
	} {
		sum := sha.Sum([]byte(s))
		if got := sha.Hex(sum[:]); got != want {
			t.Errorf("Sum of %d bytes = %s", len(s), got)
		}
	}
	if sha.Sum(nil) != sha.Sum([]byte{}) {
		t.Error("no bytes and no row are unlike")
	}
}

// P2.2: each count of bytes, so those, too, at which one block more begins, with bytes of all kinds.
func TestSumOfEachLength(t *testing.T) {
	for n := range 700 {
		for _, b := range [][]byte{row(n, uint32(n)), make([]byte, n), bytes.Repeat([]byte{255}, n), bytes.Repeat([]byte{128}, n)} {
			if got, want := sha.Sum(b), sha256.Sum256(b); got != want {
				t.Errorf("Sum of %d bytes = %x, not %x", n, got, want)
			}
		}
	}
}

// P2.2: lengths whose bits take more than one, two and three bytes to tell.
func TestSumOfLongRows(t *testing.T) {
	for _, n := range []int{8191, 8192, 8193, 65535, 65536, 1<<21 - 1, 1 << 21, 1<<21 + 55, 1<<21 + 56} {
		b := row(n, uint32(n))
		if got, want := sha.Sum(b), sha256.Sum256(b); got != want {
			t.Errorf("Sum of %d bytes = %x, not %x", n, got, want)
		}
	}
}

// P2.2: each single bit of what is summed tells.
func TestSumOfSingleBits(t *testing.T) {
	seen := map[[32]byte]bool{}
	for bit := range 8 * 130 {
		b := make([]byte, 130)
		b[bit/8] = 1 << (bit % 8)
		got := sha.Sum(b)
		if got != sha256.Sum256(b) || seen[got] {
			t.Errorf("Sum with the bit %d = %x", bit, got)
		}
		seen[got] = true
	}
}

// P2.2: what is handed in stays, also what lies behind it, and a sum hangs on nothing else.
func TestSumLeavesItsBytes(t *testing.T) {
	for n := range 200 {
		all := bytes.Repeat([]byte{0xaa}, n+200)
		copy(all, row(n, 7))
		was := bytes.Clone(all)
		first := sha.Sum(all[:n])
		if !bytes.Equal(all, was) {
			t.Fatalf("Sum of %d bytes wrote into them, or behind them", n)
		}
		if again := sha.Sum(bytes.Clone(all[:n])); again != first {
			t.Fatalf("Sum of the same %d bytes = %x and %x", n, first, again)
		}
	}
}

// P2.3
func TestHex(t *testing.T) {
	for want, b := range map[string][]byte{
		"": {}, "00": {0}, "09": {9}, "0a": {10}, "0f": {15}, "10": {16}, "90": {0x90}, "a0": {0xa0}, "f0": {0xf0}, "ff": {255}, "7f80": {127, 128},
		"0123456789abcdef": {0x01, 0x23, 0x45, 0x67, 0x89, 0xab, 0xcd, 0xef}, "000000": {0, 0, 0},
	} {
		if got := sha.Hex(b); got != want {
			t.Errorf("Hex(%v) = %q", b, got)
		}
	}
	if got := sha.Hex(nil); got != "" {
		t.Errorf("Hex of none = %q", got)
	}
	for n := range 300 {
		b := row(n, uint32(n))
		was := bytes.Clone(b)
		if got := sha.Hex(b); got != hex.EncodeToString(b) || !bytes.Equal(b, was) {
			t.Errorf("Hex of %v = %q", was, got)
		}
	}
}

// P2.3
func TestUnhex(t *testing.T) {
	for s, want := range map[string][]byte{
		"": nil, "00": {0}, "0a": {10}, "a0": {160}, "ff": {255}, "99": {0x99}, "7f80": {127, 128}, "0123456789abcdef": {0x01, 0x23, 0x45, 0x67, 0x89, 0xab, 0xcd, 0xef},
	} {
		if got, ok := sha.Unhex(s); !bytes.Equal(got, want) || !ok {
			t.Errorf("Unhex(%q) = %v, %v", s, got, ok)
		}
	}
}

// P2.3: with a false there are no bytes, not even those ahead of the fault.
func TestUnhexOfNone(t *testing.T) {
	for _, s := range []string{
		"0", "f", "000", "abc", "AB", "aB", "Ab", "0A", "F0", "g0", "0g", "0x", "0x00", "x0", " 0", "0 ", "00 ", " 00", "0 0", "00 00", "00\n", "\n0", "-1", "+1", "0-", "1.", "0_", "\x000", "0\x00",
		"/0", "0/", ":0", "0:", "`0", "0`", "@0", "0@", "G0", "0G", "\xff\xff", "\u00e4", "\u0660", "0\u0660", "\uff10\uff10", "0102030", "01020304g5", "0102030G", "g001020304",
		strings.Repeat("0", 1001), strings.Repeat("0", 1000) + "0G", "G0" + strings.Repeat("0", 1000),
	} {
		if b, ok := sha.Unhex(s); len(b) != 0 || ok {
			t.Errorf("Unhex(%q) = %v, %v", s, b, ok)
		}
	}
}

// P2.4: of all texts of up to two bytes those that were told are taken, and no other one.
func TestNothingElseIsTaken(t *testing.T) {
	toldBy := map[string]byte{}
	for c := range 256 {
		toldBy[sha.Hex([]byte{byte(c)})] = byte(c)
	}
	if len(toldBy) != 256 {
		t.Errorf("of 256 bytes %d texts were told", len(toldBy))
	}
	for a := range 256 {
		if b, ok := sha.Unhex(string([]byte{byte(a)})); len(b) != 0 || ok {
			t.Errorf("Unhex of the byte %d = %v, %v", a, b, ok)
		}
		for c := range 256 {
			s := string([]byte{byte(a), byte(c)})
			want, isTold := toldBy[s]
			b, ok := sha.Unhex(s)
			if ok != isTold || isTold && !bytes.Equal(b, []byte{want}) || !isTold && len(b) != 0 {
				t.Errorf("Unhex(%q) = %v, %v", s, b, ok)
			}
		}
	}
}

// P2.4
func TestToldIsTaken(t *testing.T) {
	for n := range 300 {
		want := row(n, uint32(n))
		if got, ok := sha.Unhex(sha.Hex(want)); !bytes.Equal(got, want) || !ok {
			t.Errorf("Unhex of Hex of %v = %v, %v", want, got, ok)
		}
		sum := sha.Sum(want)
		if got, ok := sha.Unhex(sha.Hex(sum[:])); !bytes.Equal(got, sum[:]) || !ok {
			t.Errorf("Unhex of Hex of %x = %v, %v", sum, got, ok)
		}
	}
}

// P2.4: a byte that is changed, put in or left out makes other bytes, or none.
func TestDigitsChanged(t *testing.T) {
	s := sha.Hex([]byte{0x00, 0x9a, 0xaf, 0xf9, 0x5c})
	for i := range len(s) + 1 {
		for c := range 256 {
			checkTaken(t, s[:i]+string([]byte{byte(c)})+s[i:])
			if i < len(s) {
				checkTaken(t, s[:i]+string([]byte{byte(c)})+s[i+1:])
			}
		}
		if i < len(s) {
			checkTaken(t, s[:i]+s[i+1:])
		}
	}
}

func checkTaken(t *testing.T, s string) {
	t.Helper()
	want, err := hex.DecodeString(s)
	isTold := err == nil && hex.EncodeToString(want) == s
	got, ok := sha.Unhex(s)
	if ok != isTold || isTold && !bytes.Equal(got, want) || !isTold && len(got) != 0 {
		t.Errorf("Unhex(%q) = %v, %v", s, got, ok)
	}
}

// What was told stays as it is, whatever becomes of what was told ahead of it.
func TestToldBytesAreTheCallersOwn(t *testing.T) {
	first, _ := sha.Unhex("0102")
	second, _ := sha.Unhex("0102")
	first[0] = 9
	first = append(first[:1], 9, 9)
	if !bytes.Equal(second, []byte{1, 2}) || len(first) != 3 {
		t.Errorf("%v", second)
	}
	if third, ok := sha.Unhex("0102"); !bytes.Equal(third, []byte{1, 2}) || !ok {
		t.Errorf("%v, %v", third, ok)
	}
}
