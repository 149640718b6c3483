package sets_test

import (
	"maps"
	"math/rand"
	"slices"
	"strconv"
	"strings"
	"testing"

	"tipstaff/api"
	"tipstaff/reply"
	"tipstaff/sets"
	"tipstaff/table"
	"tipstaff/value"
)

// set is a value of texts that rise.
func set(l ...string) api.Value {
	if len(l) == 0 {
		return api.Value{}
	}
	return api.Value{Kind: api.KSet, L: l}
}

// others are values of each kind but a set's and none's.
func others() []api.Value {
	return []api.Value{
		{Kind: api.KText, S: "a"},
		{Kind: api.KText},
		{Kind: api.KList, L: []string{"a", "b"}},
		{Kind: api.KHash, H: []api.Pair{{Name: "a", Val: "1"}}},
		{Kind: api.KSorted, Z: []api.Mark{{Name: "a", N: 1}}},
	}
}

// named are requests that fit, of each command of the layer.
func named() []string {
	return []string{
		"sadd k a", "sadd k x", "sadd k x a y b", "srem k a", "srem k x", "srem k a x a c",
		"sismember k a", "sismember k x", "smembers k", "scard k",
	}
}

// does asks for what a request makes of v, and tells.
func does(t *testing.T, v api.Value, args []string, want api.Value, told []byte) {
	t.Helper()
	w, b := sets.Do(v, args)
	if !value.Same(w, want) || string(b) != string(told) {
		t.Errorf("Do(%v, %q) = %v, %q, not %v, %q", v, args, w, b, want, told)
	}
	if !value.Right(w) {
		t.Errorf("Do(%v, %q) = %v, which may not be", v, args, w)
	}
}

// asked is does of words that blanks part.
func asked(t *testing.T, v api.Value, request string, want api.Value, told []byte) {
	t.Helper()
	does(t, v, strings.Split(request, " "), want, told)
}

// moves asks for what Move makes of both, and tells.
func moves(t *testing.T, from, to api.Value, s string, wantFrom, wantTo api.Value, told []byte) {
	t.Helper()
	f, g, b := sets.Move(from, to, s)
	if !value.Same(f, wantFrom) || !value.Same(g, wantTo) || string(b) != string(told) {
		t.Errorf("Move(%v, %v, %q) = %v, %v, %q, not %v, %v, %q", from, to, s, f, g, b, wantFrom, wantTo, told)
	}
	if !value.Right(f) || !value.Right(g) {
		t.Errorf("Move(%v, %v, %q) = %v, %v, of which one may not be", from, to, s, f, g)
	}
}

// P14.1: of commands that are not named, v, and no bytes; smove is not done with one value.
func TestUnnamed(t *testing.T) {
	values := append(others(), api.Value{}, set("a"), set("", "a", "b"))
	ours := []string{"sadd", "srem", "sismember", "smembers", "scard"}
	names := []string{"", "nix", "sad", "sadds", "add", "spop", "scard ", " scard", "smember", "sismembers", "sunion"}
	for id := range table.Count() {
		c, _ := table.At(id)
		if !slices.Contains(ours, c.Name) {
			names = append(names, c.Name, strings.ToUpper(c.Name))
		}
	}
	for _, v := range values {
		for _, name := range names {
			does(t, v, []string{name, "k", "a", "a"}, v, nil)
			does(t, v, []string{name}, v, nil)
			if _, told := sets.Do(v, []string{name, "k", "a"}); told != nil {
				t.Errorf("Do(%v) of %q tells %q", v, name, told)
			}
		}
	}
}

// P14.1: a value that is neither none nor a set is told ahead of all else, and stays.
func TestWrongType(t *testing.T) {
	for _, v := range others() {
		for _, request := range named() {
			asked(t, v, request, v, reply.Err(api.WrongType))
		}
	}
}

// P14.1: sadd puts each word in, at its place, and tells how many more there are.
func TestSadd(t *testing.T) {
	asked(t, set("b"), "sadd k b a a", set("a", "b"), reply.Int(1))
	asked(t, set(), "sadd k b", set("b"), reply.Int(1))
	asked(t, set(), "sadd k c a b", set("a", "b", "c"), reply.Int(3))
	asked(t, set(), "sadd k a a a", set("a"), reply.Int(1))
	v := set("b", "d")
	asked(t, v, "sadd k a", set("a", "b", "d"), reply.Int(1))
	asked(t, v, "sadd k c", set("b", "c", "d"), reply.Int(1))
	asked(t, v, "sadd k e", set("b", "d", "e"), reply.Int(1))
	asked(t, v, "sadd k e c a", set("a", "b", "c", "d", "e"), reply.Int(3))
	asked(t, v, "sadd k e d c b a", set("a", "b", "c", "d", "e"), reply.Int(3))
	asked(t, v, "sadd k b", v, reply.Int(0))
	asked(t, v, "sadd k d b d", v, reply.Int(0))
	asked(t, v, "sadd k ", set("", "b", "d"), reply.Int(1))
	// Neither the key nor the command's name is put in.
	asked(t, v, "sadd k k sadd", set("b", "d", "k", "sadd"), reply.Int(2))
}

// P14.1: texts rise byte by byte, the shorter ahead, where one begins with the other.
func TestOrder(t *testing.T) {
	asked(t, set("b"), "sadd k ba B 10 9 b:", set("10", "9", "B", "b", "b:", "ba"), reply.Int(5))
	does(t, set("a"), []string{"sadd", "k", "\xff\r\n", "\x00", "", "\xc3\xa4", "\xff"}, set("", "\x00", "a", "\xc3\xa4", "\xff", "\xff\r\n"), reply.Int(5))
	does(t, set(), []string{"sadd", "k", ""}, set(""), reply.Int(1))
}

// P14.1: srem takes each word out, and tells how many fewer there are.
func TestSrem(t *testing.T) {
	v := set("a", "b", "c")
	asked(t, v, "srem k a", set("b", "c"), reply.Int(1))
	asked(t, v, "srem k b", set("a", "c"), reply.Int(1))
	asked(t, v, "srem k c", set("a", "b"), reply.Int(1))
	asked(t, v, "srem k c a", set("b"), reply.Int(2))
	asked(t, v, "srem k x", v, reply.Int(0))
	asked(t, v, "srem k A k srem aa ", v, reply.Int(0))
	asked(t, v, "srem k x b y", set("a", "c"), reply.Int(1))
	asked(t, v, "srem k b b b", set("a", "c"), reply.Int(1))
	asked(t, set("", "a"), "srem k ", set("a"), reply.Int(1))
	asked(t, set("", "a"), "srem k a", set(""), reply.Int(1))
	asked(t, set(), "srem k a b ", set(), reply.Int(0))
	does(t, set("\r\n\xff", "a"), []string{"srem", "k", "\r\n\xff"}, set("a"), reply.Int(1))
}

// P14.1: a set from which the last text is taken is none.
func TestLastIsTaken(t *testing.T) {
	asked(t, set("a"), "srem k a", api.Value{}, reply.Int(1))
	asked(t, set("a"), "srem k a a x", api.Value{}, reply.Int(1))
	asked(t, set(""), "srem k ", api.Value{}, reply.Int(1))
	asked(t, set("a", "b", "c"), "srem k b c a", api.Value{}, reply.Int(3))
	asked(t, set("a", "b", "c"), "srem k a b x c b a", api.Value{}, reply.Int(3))
}

// P14.1: a request's words are 32 at most: all of them are looked at.
func TestManyWords(t *testing.T) {
	var words []string
	for i := range api.MaxArgs - 2 {
		words = append(words, "w"+strconv.Itoa(100+i))
	}
	turned := slices.Clone(words)
	slices.Reverse(turned)
	all := set(append([]string{"a"}, words...)...)
	for _, l := range [][]string{words, turned} {
		does(t, set("a"), append([]string{"sadd", "k"}, l...), all, reply.Int(30))
		does(t, all, append([]string{"srem", "k"}, l...), set("a"), reply.Int(30))
		does(t, set(words...), append([]string{"srem", "k"}, l...), api.Value{}, reply.Int(30))
	}
}

// P14.1: sismember tells whether the third word is in the set, and changes nothing.
func TestSismember(t *testing.T) {
	v := set("", "\r\n\xff", "a", "c")
	for _, s := range v.L {
		asked(t, v, "sismember k "+s, v, reply.Int(1))
		asked(t, set(s), "sismember k "+s, set(s), reply.Int(1))
		asked(t, set(), "sismember k "+s, set(), reply.Int(0))
	}
	for _, s := range []string{"b", "d", "A", "aa", "a\x00", "k", "\r\n", "\xff", "sismember"} {
		asked(t, v, "sismember k "+s, v, reply.Int(0))
		asked(t, set("x"), "sismember k "+s, set("x"), reply.Int(0))
	}
	asked(t, set("a"), "sismember k ", set("a"), reply.Int(0))
}

// P14.1: smembers tells all texts, in order, and changes nothing.
func TestSmembers(t *testing.T) {
	for _, l := range [][]string{{}, {"a"}, {""}, {"a", "b", "c"}, {"", "\x00", "$-1\r\n", "\xff\r\n"}} {
		asked(t, set(l...), "smembers k", set(l...), reply.Texts(l...))
	}
	asked(t, set("a", "bc"), "smembers k", set("a", "bc"), []byte("*2\r\n$1\r\na\r\n$2\r\nbc\r\n"))
	asked(t, set(), "smembers k", set(), []byte("*0\r\n"))
}

// P14.1: scard tells how many texts there are, and changes nothing.
func TestScard(t *testing.T) {
	asked(t, set(), "scard k", set(), reply.Int(0))
	asked(t, set(""), "scard k", set(""), reply.Int(1))
	asked(t, set("a", "b", "c"), "scard k", set("a", "b", "c"), reply.Int(3))
	var many []string
	for i := range 300 {
		many = append(many, strconv.Itoa(1000+i))
	}
	asked(t, set(many...), "scard k", set(many...), reply.Int(300))
}

// P14.1: a command's name is one in any letters, as requests that fit have it; no other word is changed.
func TestLetters(t *testing.T) {
	v := set("A", "b")
	asked(t, v, "SADD k B", set("A", "B", "b"), reply.Int(1))
	asked(t, v, "sAdd k a", set("A", "a", "b"), reply.Int(1))
	asked(t, v, "SRem k A", set("b"), reply.Int(1))
	asked(t, v, "SREM k a", v, reply.Int(0))
	asked(t, v, "SIsMember k A", v, reply.Int(1))
	asked(t, v, "SISMEMBER k a", v, reply.Int(0))
	asked(t, v, "SMEMBERS k", v, reply.Texts("A", "b"))
	asked(t, v, "sCARD k", v, reply.Int(2))
}

// P14.1: the key's name does not matter, neither if it is in the set.
func TestKeyNames(t *testing.T) {
	v := set("a", "k")
	for _, key := range []string{"", "a", "k", "sadd", "7", "x\r\n"} {
		does(t, v, []string{"sadd", key, "b"}, set("a", "b", "k"), reply.Int(1))
		does(t, v, []string{"srem", key, "k"}, set("a"), reply.Int(1))
		does(t, v, []string{"sismember", key, "k"}, v, reply.Int(1))
		does(t, v, []string{"sismember", key, "b"}, v, reply.Int(0))
		does(t, v, []string{"smembers", key}, v, reply.Texts("a", "k"))
		does(t, v, []string{"scard", key}, v, reply.Int(2))
	}
}

// P14.1: nothing panics, whatever the words: of words that are too few, v, and no bytes.
func TestTooFewWords(t *testing.T) {
	fewest := []string{"sadd k a", "srem k a", "sismember k a", "smembers k", "scard k"}
	for _, v := range append(others(), api.Value{}, set("a", "b")) {
		does(t, v, nil, v, nil)
		does(t, v, []string{}, v, nil)
		for _, request := range fewest {
			args := strings.Split(request, " ")
			for n := 1; n < len(args); n++ {
				does(t, v, args[:n], v, nil)
			}
		}
	}
}

// strange are values that may not be.
func strange() []api.Value {
	turned := []string{"c", "b", "a", "a", ""}
	return []api.Value{{Kind: api.KSet}, {Kind: api.KSet, L: []string{}}, {Kind: api.KSet, L: turned}, {L: turned}, {Kind: 6}, {Kind: 255, L: turned}}
}

// P14.1, P14.2: nothing panics, whatever the value: one that may not be has no set, or a strange one.
func TestStrangeValues(t *testing.T) {
	for _, v := range strange() {
		for _, request := range named() {
			if _, told := sets.Do(v, strings.Split(request, " ")); len(told) == 0 {
				t.Errorf("Do(%v, %q) tells nothing", v, request)
			}
		}
		for _, w := range append(strange(), set("a", "b")) {
			for _, s := range []string{"", "a", "b", "c", "x"} {
				_, _, told := sets.Move(v, w, s)
				_, _, turned := sets.Move(w, v, s)
				if len(told) == 0 || len(turned) == 0 {
					t.Errorf("Move of %v and %v, %q, tells nothing", v, w, s)
				}
			}
		}
	}
}

// P14.2: Move takes a text out of the one set, and puts it into the other.
func TestMove(t *testing.T) {
	from := set("a", "b", "c")
	moves(t, from, set("d"), "a", set("b", "c"), set("a", "d"), reply.Int(1))
	moves(t, from, set("a", "d"), "b", set("a", "c"), set("a", "b", "d"), reply.Int(1))
	moves(t, from, set("a"), "c", set("a", "b"), set("a", "c"), reply.Int(1))
	moves(t, from, set(), "b", set("a", "c"), set("b"), reply.Int(1))
	moves(t, set("", "b"), set("a"), "", set("b"), set("", "a"), reply.Int(1))
	moves(t, set("\r\n\xff", "b"), set("z"), "\r\n\xff", set("b"), set("\r\n\xff", "z"), reply.Int(1))
}

// P14.2: of a text that is in both, it is in the other one, once.
func TestMoveToWhereItIs(t *testing.T) {
	moves(t, set("a", "b"), set("b", "c"), "b", set("a"), set("b", "c"), reply.Int(1))
	moves(t, set("b"), set("b"), "b", set(), set("b"), reply.Int(1))
	both := set("a", "b")
	moves(t, both, both, "a", set("b"), set("a", "b"), reply.Int(1))
}

// P14.2: a set from which the last text is taken is none.
func TestMoveTheLast(t *testing.T) {
	moves(t, set("a"), set("b"), "a", api.Value{}, set("a", "b"), reply.Int(1))
	moves(t, set("a"), set(), "a", api.Value{}, set("a"), reply.Int(1))
	moves(t, set(""), set(), "", api.Value{}, set(""), reply.Int(1))
}

// P14.2: of a text that is not in the one set, both stay, also if it is in the other.
func TestMoveNothing(t *testing.T) {
	for _, from := range []api.Value{set(), set("a"), set("A", "b", "d")} {
		for _, to := range []api.Value{set(), set("c"), set("", "c", "x")} {
			for _, s := range []string{"", "c", "x", "aa", "D", "b "} {
				moves(t, from, to, s, from, to, reply.Int(0))
			}
		}
	}
}

// P14.2: a value that is neither none nor a set is told ahead of all else, and both stay.
func TestMoveWrongType(t *testing.T) {
	told := reply.Err(api.WrongType)
	for _, v := range others() {
		for _, s := range []string{"a", "x", ""} {
			for _, w := range append(others(), api.Value{}, set("a"), set("", "a", "b")) {
				moves(t, v, w, s, v, w, told)
				moves(t, w, v, s, w, v, told)
			}
		}
	}
}

// P14.1: what is handed in is not changed, and what is told is the caller's own.
func TestOwn(t *testing.T) {
	// Room behind the row, and behind the words, is the caller's too.
	row := append(make([]string, 0, 8), "a", "c", "e")
	for _, v := range append(others(), api.Value{}, set("ab"), set(row...)) {
		was := value.Own(v)
		for _, request := range append(named(), "lpush k 1") {
			args := strings.Split(strings.ToUpper(request), " ")
			args = append(make([]string, 0, 16), args...)
			words := slices.Clone(args)
			first, told := sets.Do(v, args)
			kept, anew := value.Own(first), string(told)
			spoil(first)
			for i := range told {
				told[i] = '!'
			}
			if !value.Same(v, was) || !slices.Equal(args, words) {
				t.Errorf("what Do(%v, %q) tells is its argument", was, words)
			}
			again, told := sets.Do(v, args)
			for i := range args {
				args[i] = "!"
			}
			if !value.Same(kept, again) || string(told) != anew {
				t.Errorf("Do(%v, %q) = %v, %q, then %v, %q", was, words, kept, anew, again, told)
			}
		}
	}
	empty(t, row[3:8])
}

// P14.2: what is handed in is not changed, and what is told is the caller's own: neither of both is the other's.
func TestMoveOwn(t *testing.T) {
	row := append(make([]string, 0, 8), "a", "c", "e")
	values := append(others(), api.Value{}, set("c"), set(row...))
	for _, v := range values {
		for _, w := range values {
			for _, s := range []string{"a", "c", "e", "x"} {
				from, to, told := sets.Move(v, w, s)
				kept, other, anew := value.Own(from), value.Own(to), string(told)
				spoil(from)
				if !value.Same(to, other) {
					t.Errorf("both that Move(%v, %v, %q) tells are one", v, w, s)
				}
				spoil(to)
				for i := range told {
					told[i] = '!'
				}
				moves(t, v, w, s, kept, other, []byte(anew))
			}
		}
	}
	if !slices.Equal(row, []string{"a", "c", "e"}) {
		t.Errorf("the row is %q", row)
	}
	empty(t, row[3:8])
}

// empty asks for the room behind a row.
func empty(t *testing.T, room []string) {
	t.Helper()
	for _, s := range room {
		if s != "" {
			t.Errorf("behind the row there is %q", s)
		}
	}
}

// spoil writes into each row of v, and into the room behind.
func spoil(v api.Value) {
	for i := range v.L {
		v.L[i] = "!"
	}
	_ = append(v.L, "!", "!")
	for i := range v.H {
		v.H[i].Val = "!"
	}
	for i := range v.Z {
		v.Z[i].N = -99
	}
}

// P14.3: what was put in is in it, once, and is out when it was taken out once.
func TestPutIsIn(t *testing.T) {
	texts := []string{"", "a", "A", "aa", "b", "\x00", "\r\n", "\xff", "7", "-7", strings.Repeat("x", api.MaxBulk)}
	for _, was := range []api.Value{set(), set("a"), set("", "b", "c")} {
		for _, s := range texts {
			for _, other := range texts {
				v, _ := sets.Do(was, []string{"sadd", "k", s, other, s})
				v, _ = sets.Do(v, []string{"sadd", "k", s})
				for _, in := range append([]string{s, other}, was.L...) {
					does(t, v, []string{"sismember", "k", in}, v, reply.Int(1))
				}
				does(t, v, []string{"smembers", "k"}, v, reply.Texts(v.L...))
				v, _ = sets.Do(v, []string{"srem", "k", s})
				does(t, v, []string{"sismember", "k", s}, v, reply.Int(0))
			}
		}
	}
}

// P14.3: what was moved is in the other one, once, and in the one no more.
func TestMovedIsIn(t *testing.T) {
	for _, to := range []api.Value{set(), set("b"), set("a", "c")} {
		v, w, _ := sets.Move(set("a", "b", "c"), to, "b")
		does(t, v, []string{"sismember", "k", "b"}, v, reply.Int(0))
		does(t, w, []string{"sismember", "k", "b"}, w, reply.Int(1))
		w, _ = sets.Do(w, []string{"srem", "k", "b"})
		does(t, w, []string{"sismember", "k", "b"}, w, reply.Int(0))
	}
}

// P14.1 to P14.3: many requests, one behind the other, against maps.
func TestAgainstMaps(t *testing.T) {
	r := rand.New(rand.NewSource(14))
	for range 80 {
		all := [2]map[string]int{{}, {}}
		var v [2]api.Value
		for range 80 {
			at := r.Intn(2)
			if r.Intn(5) == 0 {
				s := text(r)
				told := shift(all[at], all[1-at], s)
				moves(t, v[at], v[1-at], s, is(all[at]), is(all[1-at]), told)
				v[at], v[1-at], _ = sets.Move(v[at], v[1-at], s)
				continue
			}
			args, told := step(r, all[at])
			does(t, v[at], args, is(all[at]), told)
			v[at], _ = sets.Do(v[at], args)
		}
	}
}

func text(r *rand.Rand) string {
	return []string{"", "a", "aa", "b", "c", "C", "\xff"}[r.Intn(7)]
}

// is a set of the names of a map.
func is(all map[string]int) api.Value {
	return set(slices.Sorted(maps.Keys(all))...)
}

// shift moves a name from map to map, and tells the reply.
func shift(from, to map[string]int, s string) []byte {
	if from[s] == 0 {
		return reply.Int(0)
	}
	delete(from, s)
	to[s] = 1
	return reply.Int(1)
}

// step picks a request, does it to the map, and tells the reply.
func step(r *rand.Rand, all map[string]int) ([]string, []byte) {
	s, other := text(r), text(r)
	had := len(all)
	switch r.Intn(5) {
	case 0:
		all[s], all[other] = 1, 1
		return []string{"sadd", "k", s, other}, reply.Int(len(all) - had)
	case 1:
		delete(all, s)
		delete(all, other)
		return []string{"srem", "k", s, other}, reply.Int(had - len(all))
	case 2:
		return []string{"sismember", "k", s}, reply.Int(all[s])
	case 3:
		return []string{"smembers", "k"}, reply.Texts(slices.Sorted(maps.Keys(all))...)
	}
	return []string{"scard", "k"}, reply.Int(had)
}
