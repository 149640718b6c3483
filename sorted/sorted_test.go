package sorted_test

import (
	"math/rand"
	"slices"
	"strconv"
	"strings"
	"testing"

	"tipstaff/api"
	"tipstaff/reply"
	"tipstaff/sorted"
	"tipstaff/table"
	"tipstaff/value"
)

const (
	greatest = "9223372036854775807"
	least    = "-9223372036854775808"
	highest  = 1<<63 - 1
	lowest   = -1 << 63
)

func mark(name string, n int) api.Mark { return api.Mark{Name: name, N: n} }

// marks is a value of marks that are in order.
func marks(z ...api.Mark) api.Value {
	if len(z) == 0 {
		return api.Value{}
	}
	return api.Value{Kind: api.KSorted, Z: z}
}

// abc is a 1, b 2, c 3.
func abc() api.Value { return marks(mark("a", 1), mark("b", 2), mark("c", 3)) }

// others are values of each kind but a sorted set's and none's.
func others() []api.Value {
	return []api.Value{
		{Kind: api.KText, S: "1"},
		{Kind: api.KText},
		{Kind: api.KList, L: []string{"a", "1"}},
		{Kind: api.KHash, H: []api.Pair{{Name: "a", Val: "1"}}},
		{Kind: api.KSet, L: []string{"1", "a"}},
	}
}

// named are requests that fit, of each command of the layer.
func named() []string {
	return []string{
		"zadd k 1 a", "zadd k 2 b", "zadd k -2 x", "zadd k x a", "zincrby k 1 a", "zincrby k -5 x", "zincrby k x a",
		"zincrby k " + greatest + " a", "zrem k a", "zrem k x", "zrem k a x a c", "zscore k a", "zscore k x",
		"zcard k", "zrange k 0 -1", "zrange k 1 1", "zrange k x 1",
	}
}

// wrong are texts that are no numbers.
func wrong() []string {
	return []string{"", "x", "+1", "01", "-0", "1.0", "1e3", "0x1", "1_0", "--1", "-", " 1", "1 ", "inf", "(1", "9223372036854775808", "-9223372036854775809", "1\r\n"}
}

// does asks for what a request makes of v, and tells.
func does(t *testing.T, v api.Value, args []string, want api.Value, told []byte) {
	t.Helper()
	w, b := sorted.Do(v, args)
	if !value.Same(w, want) || string(b) != string(told) {
		t.Errorf("Do(%v, %q) = %v, %q, not %v, %q", v, args, w, b, want, told)
	}
	if !value.Right(w) {
		t.Errorf("Do(%v, %q) = %v, which may not be", v, args, w)
	}
}

// asked is does of words that blanks part.
func asked(t *testing.T, v api.Value, request string, want api.Value, told []byte) {
	t.Helper()
	does(t, v, strings.Split(request, " "), want, told)
}

// stays asks for an Err, with which v is as it was.
func stays(t *testing.T, v api.Value, request, says string) {
	t.Helper()
	asked(t, v, request, v, reply.Err(says))
}

// P15.1: of commands that are not named, v, and no bytes.
func TestUnnamed(t *testing.T) {
	values := append(others(), api.Value{}, abc(), marks(mark("", 0)))
	ours := []string{"zadd", "zrem", "zscore", "zrange", "zcard", "zincrby"}
	names := []string{"", "nix", "zad", "zadds", "add", "zpopmin", "zcard ", " zcard", "zincr", "zrank", "zrevrange"}
	for id := range table.Count() {
		c, _ := table.At(id)
		if !slices.Contains(ours, c.Name) {
			names = append(names, c.Name, strings.ToUpper(c.Name))
		}
	}
	for _, v := range values {
		for _, name := range names {
			does(t, v, []string{name, "k", "1", "a"}, v, nil)
			does(t, v, []string{name}, v, nil)
			if _, told := sorted.Do(v, []string{name, "k", "1"}); told != nil {
				t.Errorf("Do(%v) of %q tells %q", v, name, told)
			}
		}
	}
}

// P15.1: a value that is neither none nor a sorted set is told ahead of all else, and stays.
func TestWrongType(t *testing.T) {
	for _, v := range others() {
		for _, request := range named() {
			stays(t, v, request, api.WrongType)
		}
	}
}

// P15.1: zadd of a Name that is not there puts a mark at its place, and tells 1.
func TestZaddAnew(t *testing.T) {
	asked(t, marks(mark("b", 2)), "zadd k 2 a", marks(mark("a", 2), mark("b", 2)), reply.Int(1))
	asked(t, marks(), "zadd k 5 a", marks(mark("a", 5)), reply.Int(1))
	asked(t, marks(), "zadd k 0 ", marks(mark("", 0)), reply.Int(1))
	v := marks(mark("m", -3), mark("b", 4))
	asked(t, v, "zadd k -4 z", marks(mark("z", -4), mark("m", -3), mark("b", 4)), reply.Int(1))
	asked(t, v, "zadd k 0 z", marks(mark("m", -3), mark("z", 0), mark("b", 4)), reply.Int(1))
	asked(t, v, "zadd k 9 a", marks(mark("m", -3), mark("b", 4), mark("a", 9)), reply.Int(1))
	asked(t, v, "zadd k "+least+" z", marks(mark("z", lowest), mark("m", -3), mark("b", 4)), reply.Int(1))
	asked(t, v, "zadd k "+greatest+" a", marks(mark("m", -3), mark("b", 4), mark("a", highest)), reply.Int(1))
	// Neither the key nor a number is a Name.
	asked(t, v, "zadd k 4 4", marks(mark("m", -3), mark("4", 4), mark("b", 4)), reply.Int(1))
	asked(t, v, "zadd k 4 k", marks(mark("m", -3), mark("b", 4), mark("k", 4)), reply.Int(1))
}

// P15.1: zadd of a Name that is there gives its mark another number, and a place, and tells 0.
func TestZaddOver(t *testing.T) {
	v := abc()
	asked(t, v, "zadd k 2 b", v, reply.Int(0))
	asked(t, v, "zadd k 0 b", marks(mark("b", 0), mark("a", 1), mark("c", 3)), reply.Int(0))
	asked(t, v, "zadd k 4 b", marks(mark("a", 1), mark("c", 3), mark("b", 4)), reply.Int(0))
	asked(t, v, "zadd k 1 b", marks(mark("a", 1), mark("b", 1), mark("c", 3)), reply.Int(0))
	asked(t, v, "zadd k 3 b", marks(mark("a", 1), mark("b", 3), mark("c", 3)), reply.Int(0))
	asked(t, v, "zadd k 2 a", marks(mark("a", 2), mark("b", 2), mark("c", 3)), reply.Int(0))
	asked(t, v, "zadd k 3 a", marks(mark("b", 2), mark("a", 3), mark("c", 3)), reply.Int(0))
	asked(t, v, "zadd k 9 a", marks(mark("b", 2), mark("c", 3), mark("a", 9)), reply.Int(0))
	asked(t, v, "zadd k 1 c", marks(mark("a", 1), mark("c", 1), mark("b", 2)), reply.Int(0))
	asked(t, v, "zadd k "+least+" c", marks(mark("c", lowest), mark("a", 1), mark("b", 2)), reply.Int(0))
	asked(t, marks(mark("", 1)), "zadd k -1 ", marks(mark("", -1)), reply.Int(0))
}

// P15.1: a third word that is no number is told, and the sorted set stays.
func TestNotInt(t *testing.T) {
	told := reply.Err(api.NotInt)
	for _, s := range wrong() {
		for _, v := range []api.Value{marks(), abc(), marks(mark("b", highest)), marks(mark("a", lowest), mark(s, 7))} {
			for _, name := range []string{"a", "b", "x", "5"} {
				does(t, v, []string{"zadd", "k", s, name}, v, told)
				does(t, v, []string{"zincrby", "k", s, name}, v, told)
			}
		}
	}
}

// P15.1: zincrby adds to a mark's number; it tells a text, and a Name that is not there is 0.
func TestZincrby(t *testing.T) {
	asked(t, marks(mark("a", 2), mark("b", 2)), "zincrby k -1 b", marks(mark("b", 1), mark("a", 2)), []byte("$1\r\n1\r\n"))
	v := abc()
	asked(t, v, "zincrby k 5 b", marks(mark("a", 1), mark("c", 3), mark("b", 7)), reply.Bulk("7"))
	asked(t, v, "zincrby k -9 c", marks(mark("c", -6), mark("a", 1), mark("b", 2)), reply.Bulk("-6"))
	asked(t, v, "zincrby k 1 a", marks(mark("a", 2), mark("b", 2), mark("c", 3)), reply.Bulk("2"))
	asked(t, v, "zincrby k 0 b", v, reply.Bulk("2"))
	asked(t, v, "zincrby k -2 b", marks(mark("b", 0), mark("a", 1), mark("c", 3)), reply.Bulk("0"))
	asked(t, v, "zincrby k 5 x", marks(mark("a", 1), mark("b", 2), mark("c", 3), mark("x", 5)), reply.Bulk("5"))
	asked(t, v, "zincrby k 0 x", marks(mark("x", 0), mark("a", 1), mark("b", 2), mark("c", 3)), reply.Bulk("0"))
	asked(t, v, "zincrby k -5 ", marks(mark("", -5), mark("a", 1), mark("b", 2), mark("c", 3)), reply.Bulk("-5"))
	asked(t, marks(), "zincrby k 0 a", marks(mark("a", 0)), reply.Bulk("0"))
	asked(t, marks(), "zincrby k 3 4", marks(mark("4", 3)), reply.Bulk("3"))
}

// P15.1: what just fits is added.
func TestZincrbyFits(t *testing.T) {
	asked(t, marks(), "zincrby k "+greatest+" a", marks(mark("a", highest)), reply.Bulk(greatest))
	asked(t, marks(), "zincrby k "+least+" a", marks(mark("a", lowest)), reply.Bulk(least))
	asked(t, marks(mark("a", lowest)), "zincrby k "+greatest+" a", marks(mark("a", -1)), reply.Bulk("-1"))
	asked(t, marks(mark("a", highest)), "zincrby k "+least+" a", marks(mark("a", -1)), reply.Bulk("-1"))
	asked(t, marks(mark("a", highest)), "zincrby k 0 a", marks(mark("a", highest)), reply.Bulk(greatest))
	asked(t, marks(mark("a", highest-1)), "zincrby k 1 a", marks(mark("a", highest)), reply.Bulk(greatest))
	asked(t, marks(mark("a", lowest+1)), "zincrby k -1 a", marks(mark("a", lowest)), reply.Bulk(least))
}

// P15.1: what does not fit together is told, and the sorted set stays.
func TestOverflow(t *testing.T) {
	stays(t, marks(mark("a", highest)), "zincrby k 1 a", api.Overflow)
	stays(t, marks(mark("a", highest)), "zincrby k "+greatest+" a", api.Overflow)
	stays(t, marks(mark("a", 1)), "zincrby k "+greatest+" a", api.Overflow)
	stays(t, marks(mark("a", lowest)), "zincrby k -1 a", api.Overflow)
	stays(t, marks(mark("a", -1)), "zincrby k "+least+" a", api.Overflow)
	stays(t, marks(mark("a", lowest), mark("b", 1)), "zincrby k "+least+" a", api.Overflow)
	// Another Name's number does not matter.
	asked(t, marks(mark("b", highest)), "zincrby k 1 a", marks(mark("a", 1), mark("b", highest)), reply.Bulk("1"))
	// A zadd adds nothing.
	asked(t, marks(mark("a", highest)), "zadd k "+greatest+" a", marks(mark("a", highest)), reply.Int(0))
	asked(t, marks(mark("a", lowest)), "zadd k "+least+" a", marks(mark("a", lowest)), reply.Int(0))
}

// P15.1: zrem takes out the mark of each Name that is there, and tells how many were.
func TestZrem(t *testing.T) {
	v := abc()
	asked(t, v, "zrem k a", marks(mark("b", 2), mark("c", 3)), reply.Int(1))
	asked(t, v, "zrem k b", marks(mark("a", 1), mark("c", 3)), reply.Int(1))
	asked(t, v, "zrem k c", marks(mark("a", 1), mark("b", 2)), reply.Int(1))
	asked(t, v, "zrem k c a", marks(mark("b", 2)), reply.Int(2))
	asked(t, v, "zrem k x", v, reply.Int(0))
	asked(t, v, "zrem k 1 2 A k aa ", v, reply.Int(0))
	asked(t, v, "zrem k x b y", marks(mark("a", 1), mark("c", 3)), reply.Int(1))
	asked(t, v, "zrem k b b b", marks(mark("a", 1), mark("c", 3)), reply.Int(1))
	asked(t, marks(mark("", 1), mark("a", 1)), "zrem k ", marks(mark("a", 1)), reply.Int(1))
	asked(t, marks(mark("", 1), mark("a", 1)), "zrem k a", marks(mark("", 1)), reply.Int(1))
	asked(t, marks(), "zrem k a b ", marks(), reply.Int(0))
	// The names need not rise: the numbers do.
	turned := marks(mark("c", -1), mark("b", 0), mark("a", 9))
	asked(t, turned, "zrem k a c", marks(mark("b", 0)), reply.Int(2))
	does(t, marks(mark("b", 1), mark("\r\n\xff", 1)), []string{"zrem", "k", "\r\n\xff"}, marks(mark("b", 1)), reply.Int(1))
}

// P15.1: a sorted set from which the last mark is taken is none.
func TestLastIsTaken(t *testing.T) {
	asked(t, marks(mark("a", 1)), "zrem k a", api.Value{}, reply.Int(1))
	asked(t, marks(mark("a", 0)), "zrem k a a x", api.Value{}, reply.Int(1))
	asked(t, marks(mark("", 0)), "zrem k ", api.Value{}, reply.Int(1))
	asked(t, abc(), "zrem k b c a", api.Value{}, reply.Int(3))
	asked(t, abc(), "zrem k a b x c b a", api.Value{}, reply.Int(3))
}

// P15.1: a request's words are 32 at most: all of them are looked at.
func TestManyWords(t *testing.T) {
	var all []api.Mark
	var words []string
	for i := range api.MaxArgs - 2 {
		name := "w" + strconv.Itoa(100-i)
		all = append(all, mark(name, i))
		words = append(words, name)
	}
	more := marks(append(slices.Clone(all), mark("x", 99))...)
	for range 2 {
		does(t, more, append([]string{"zrem", "k"}, words...), marks(mark("x", 99)), reply.Int(30))
		does(t, marks(all...), append([]string{"zrem", "k"}, words...), api.Value{}, reply.Int(30))
		slices.Reverse(words)
	}
}

// P15.1: zscore tells the number of a Name's mark as a text, null of one that is not there, and changes nothing.
func TestZscore(t *testing.T) {
	v := marks(mark("z", lowest), mark("c", -1), mark("", 0), mark("\r\n\xff", 0), mark("b", 12), mark("a", highest))
	for name, told := range map[string]string{"z": least, "c": "-1", "": "0", "\r\n\xff": "0", "b": "12", "a": greatest} {
		asked(t, v, "zscore k "+name, v, reply.Bulk(told))
	}
	for _, name := range []string{"0", "12", "A", "aa", "a\x00", "d", "k", "\xff", "zscore"} {
		asked(t, v, "zscore k "+name, v, reply.Null())
		asked(t, marks(), "zscore k "+name, marks(), reply.Null())
	}
	asked(t, abc(), "zscore k ", abc(), reply.Null())
	asked(t, marks(), "zscore k ", marks(), reply.Null())
}

// P15.1: zcard tells how many marks there are, and changes nothing.
func TestZcard(t *testing.T) {
	asked(t, marks(), "zcard k", marks(), reply.Int(0))
	asked(t, marks(mark("", 0)), "zcard k", marks(mark("", 0)), reply.Int(1))
	asked(t, abc(), "zcard k", abc(), reply.Int(3))
	var many []api.Mark
	for i := range 300 {
		many = append(many, mark(strconv.Itoa(1000-i), i))
	}
	asked(t, marks(many...), "zcard k", marks(many...), reply.Int(300))
}

// P15.1: zrange tells the Names from one place on up to another one, in order, and changes nothing.
func TestZrange(t *testing.T) {
	v := marks(mark("d", -7), mark("b", 0), mark("c", 0), mark("a", 5))
	for words, names := range map[string]string{
		"0 -1": "d b c a", "0 3": "d b c a", "-4 -1": "d b c a", "-9 9": "d b c a", least + " " + greatest: "d b c a",
		"0 0": "d", "1 2": "b c", "3 3": "a", "-1 -1": "a", "-2 -1": "c a", "-3 1": "b", "2 9": "c a", "-9 0": "d",
		"0 -4": "d", "1 -2": "b c",
	} {
		asked(t, v, "zrange k "+words, v, reply.Texts(strings.Split(names, " ")...))
	}
	for _, words := range []string{"2 1", "4 4", "4 9", "-9 -5", "0 -5", "-1 0", "3 2", greatest + " " + least} {
		asked(t, v, "zrange k "+words, v, reply.Texts())
		asked(t, marks(), "zrange k "+words, marks(), reply.Texts())
	}
	asked(t, marks(), "zrange k 0 -1", marks(), []byte("*0\r\n"))
	asked(t, abc(), "zrange k 1 2", abc(), []byte("*2\r\n$1\r\nb\r\n$1\r\nc\r\n"))
	strange := marks(mark("$-1\r\n", 1), mark("", 2), mark("\xff\r\n", 3))
	asked(t, strange, "zrange k 0 -1", strange, reply.Texts("$-1\r\n", "", "\xff\r\n"))
}

// P15.1: a place that is no number is told, also where there is nothing.
func TestZrangeNotInt(t *testing.T) {
	told := reply.Err(api.NotInt)
	for _, v := range []api.Value{marks(), abc(), marks(mark("", 0))} {
		for _, s := range wrong() {
			does(t, v, []string{"zrange", "k", s, "-1"}, v, told)
			does(t, v, []string{"zrange", "k", "0", s}, v, told)
			does(t, v, []string{"zrange", "k", "9", s}, v, told)
			does(t, v, []string{"zrange", "k", s, s}, v, told)
		}
	}
}

// P15.1: a command's name is one in any letters, as requests that fit have it; no other word is changed.
func TestLetters(t *testing.T) {
	v := marks(mark("A", 1), mark("b", 2))
	asked(t, v, "ZADD k 2 B", marks(mark("A", 1), mark("B", 2), mark("b", 2)), reply.Int(1))
	asked(t, v, "zAdd k 1 a", marks(mark("A", 1), mark("a", 1), mark("b", 2)), reply.Int(1))
	asked(t, v, "ZIncrBy k 1 A", marks(mark("A", 2), mark("b", 2)), reply.Bulk("2"))
	asked(t, v, "ZREM k a", v, reply.Int(0))
	asked(t, v, "ZRem k A", marks(mark("b", 2)), reply.Int(1))
	asked(t, v, "ZSCORE k a", v, reply.Null())
	asked(t, v, "zScore k A", v, reply.Bulk("1"))
	asked(t, v, "zCARD k", v, reply.Int(2))
	asked(t, v, "ZRANGE k 0 -1", v, reply.Texts("A", "b"))
}

// P15.1: the key's name does not matter, neither if a mark has it.
func TestKeyNames(t *testing.T) {
	v := marks(mark("k", 1), mark("a", 2))
	for _, key := range []string{"", "a", "k", "zadd", "7", "x\r\n"} {
		does(t, v, []string{"zadd", key, "1", "b"}, marks(mark("b", 1), mark("k", 1), mark("a", 2)), reply.Int(1))
		does(t, v, []string{"zincrby", key, "2", "k"}, marks(mark("a", 2), mark("k", 3)), reply.Bulk("3"))
		does(t, v, []string{"zrem", key, "k"}, marks(mark("a", 2)), reply.Int(1))
		does(t, v, []string{"zscore", key, "a"}, v, reply.Bulk("2"))
		does(t, v, []string{"zcard", key}, v, reply.Int(2))
		does(t, v, []string{"zrange", key, "0", "0"}, v, reply.Texts("k"))
	}
}

// P15.1: nothing panics, whatever the words: of words that are too few, v, and no bytes.
func TestTooFewWords(t *testing.T) {
	fewest := []string{"zadd k 1 a", "zincrby k 1 a", "zrem k a", "zscore k a", "zcard k", "zrange k 0 1"}
	for _, v := range append(others(), api.Value{}, abc()) {
		does(t, v, nil, v, nil)
		does(t, v, []string{}, v, nil)
		for _, request := range fewest {
			args := strings.Split(request, " ")
			for n := 1; n < len(args); n++ {
				does(t, v, args[:n], v, nil)
			}
		}
	}
}

// P15.1: nothing panics, whatever the value: one that may not be has no sorted set, or a strange one.
func TestStrangeValues(t *testing.T) {
	turned := []api.Mark{{Name: "c", N: 9}, {Name: "b", N: highest}, {Name: "a", N: 2}, {Name: "a", N: lowest}, {}}
	for _, v := range []api.Value{{Kind: api.KSorted}, {Kind: api.KSorted, Z: []api.Mark{}}, {Kind: api.KSorted, Z: turned}, {Z: turned}, {Kind: 6}, {Kind: 255, Z: turned}} {
		for _, request := range named() {
			if _, told := sorted.Do(v, strings.Split(request, " ")); len(told) == 0 {
				t.Errorf("Do(%v, %q) tells nothing", v, request)
			}
		}
	}
}

// P15.1: what is handed in is not changed, and what is told is the caller's own.
func TestOwn(t *testing.T) {
	// Room behind the row, and behind the words, is the caller's too.
	row := append(make([]api.Mark, 0, 8), mark("a", 1), mark("c", 2), mark("e", 2))
	for _, v := range append(others(), api.Value{}, marks(mark("a", 12)), marks(row...)) {
		was := value.Own(v)
		for _, request := range append(named(), "lpush k 1") {
			args := append(make([]string, 0, 16), strings.Split(request, " ")...)
			args[0] = strings.ToUpper(args[0])
			words := slices.Clone(args)
			first, told := sorted.Do(v, args)
			kept, anew := value.Own(first), string(told)
			spoil(first)
			for i := range told {
				told[i] = '!'
			}
			if !value.Same(v, was) || !slices.Equal(args, words) {
				t.Errorf("what Do(%v, %q) tells is its argument", was, words)
			}
			again, told := sorted.Do(v, args)
			for i := range args {
				args[i] = "!"
			}
			if !value.Same(kept, again) || string(told) != anew {
				t.Errorf("Do(%v, %q) = %v, %q, then %v, %q", was, words, kept, anew, again, told)
			}
		}
	}
	for _, m := range row[3:8] {
		if m != (api.Mark{}) {
			t.Errorf("behind the row there is %v", m)
		}
	}
}

// spoil writes into each row of v, and into the room behind.
func spoil(v api.Value) {
	for i := range v.L {
		v.L[i] = "!"
	}
	for i := range v.H {
		v.H[i].Val = "!"
	}
	for i := range v.Z {
		v.Z[i] = mark("!", -99)
	}
	_ = append(v.Z, mark("!", -99), mark("!", -99))
}

// P15.2: marks are in order of their numbers, whatever their names and however they come.
func TestOrderOfNumbers(t *testing.T) {
	all := []api.Mark{mark("z", lowest), mark("c", lowest+1), mark("y", -10), mark("b", -9), mark("x", -1), mark("a", 0), mark("w", 1), mark("", 9), mark("v", 10), mark("\xff", highest-1), mark("u", highest)}
	inAnyOrder(t, all)
}

// P15.2: marks of one number are in order of their names: byte by byte, the shorter ahead, where one begins with the other.
func TestOrderOfNames(t *testing.T) {
	for _, n := range []int{lowest, -1, 0, 7, highest} {
		var all []api.Mark
		for _, name := range []string{"", "\x00", "\r\n", "10", "9", "B", "a", "a\x00", "aa", "b", "b:", "ba", "\xc3\xa4", "\xff", "\xff\r\n"} {
			all = append(all, mark(name, n))
		}
		inAnyOrder(t, all)
	}
}

// inAnyOrder puts marks in by zadd and by zincrby, in many orders: it is always all of them as they stand here.
func inAnyOrder(t *testing.T, all []api.Mark) {
	t.Helper()
	r := rand.New(rand.NewSource(15))
	var names []string
	for _, m := range all {
		names = append(names, m.Name)
	}
	for range 30 {
		var v, w api.Value
		for _, i := range r.Perm(len(all)) {
			n := strconv.Itoa(all[i].N)
			v, _ = sorted.Do(v, []string{"zadd", "k", n, all[i].Name})
			w, _ = sorted.Do(w, []string{"zincrby", "k", n, all[i].Name})
		}
		does(t, v, []string{"zrange", "k", "0", "-1"}, marks(all...), reply.Texts(names...))
		does(t, w, []string{"zrange", "k", "0", "-1"}, marks(all...), reply.Texts(names...))
	}
}

// P15.1, P15.2: many requests, one behind the other, against a map.
func TestAgainstAMap(t *testing.T) {
	r := rand.New(rand.NewSource(15))
	for range 120 {
		var v api.Value
		all := map[string]int{}
		for range 100 {
			args, told := step(r, all)
			does(t, v, args, is(all), told)
			v, _ = sorted.Do(v, args)
		}
	}
}

// is a sorted set of what a map has, put in order by the least one at a time.
func is(all map[string]int) api.Value {
	var z []api.Mark
	for name, n := range all {
		at := 0
		for at < len(z) && (z[at].N < n || z[at].N == n && z[at].Name < name) {
			at++
		}
		z = slices.Insert(z, at, mark(name, n))
	}
	return marks(z...)
}

// step picks a request, does it to the map, and tells the reply.
func step(r *rand.Rand, all map[string]int) ([]string, []byte) {
	names := []string{"", "a", "aa", "b", "c", "C", "\xff"}
	name := names[r.Intn(len(names))]
	n, there := all[name]
	switch r.Intn(6) {
	case 0:
		anew := []int{lowest, -2, 0, 1, 2, highest}[r.Intn(6)]
		had := len(all)
		all[name] = anew
		return []string{"zadd", "k", strconv.Itoa(anew), name}, reply.Int(len(all) - had)
	case 1:
		by := r.Intn(7) - 3
		return []string{"zincrby", "k", strconv.Itoa(by), name}, add(all, name, by)
	case 2:
		other := names[r.Intn(len(names))]
		had := len(all)
		delete(all, name)
		delete(all, other)
		return []string{"zrem", "k", name, other}, reply.Int(had - len(all))
	case 3:
		if !there {
			return []string{"zscore", "k", name}, reply.Null()
		}
		return []string{"zscore", "k", name}, reply.Bulk(strconv.Itoa(n))
	case 4:
		return []string{"zcard", "k"}, reply.Int(len(all))
	}
	from, to := r.Intn(5), r.Intn(8)
	var told []string
	for at, m := range is(all).Z {
		if at >= from && at <= to {
			told = append(told, m.Name)
		}
	}
	return []string{"zrange", "k", strconv.Itoa(from), strconv.Itoa(to)}, reply.Texts(told...)
}

// add adds a small number to what the map has, and tells the reply.
func add(all map[string]int, name string, by int) []byte {
	n := all[name]
	if sum := n + by; by != 0 && (sum > n) != (by > 0) {
		return reply.Err(api.Overflow)
	}
	all[name] = n + by
	return reply.Bulk(strconv.Itoa(n + by))
}
