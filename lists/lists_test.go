package lists_test

import (
	"math/rand"
	"slices"
	"strconv"
	"strings"
	"testing"

	"tipstaff/api"
	"tipstaff/lists"
	"tipstaff/reply"
	"tipstaff/table"
	"tipstaff/value"
)

func list(l ...string) api.Value {
	if len(l) == 0 {
		return api.Value{}
	}
	return api.Value{Kind: api.KList, L: l}
}

// others are values of each kind but a list's and none's.
func others() []api.Value {
	return []api.Value{
		{Kind: api.KText, S: "1"},
		{Kind: api.KText},
		{Kind: api.KHash, H: []api.Pair{{Name: "a", Val: "1"}}},
		{Kind: api.KSet, L: []string{"0", "1"}},
		{Kind: api.KSorted, Z: []api.Mark{{Name: "a", N: 1}}},
	}
}

// named are requests that fit, of each command of the layer.
func named() []string {
	return []string{"lpush k 1", "lpush k 1 2 3", "rpush k 1", "rpush k 1 2 3", "lpop k", "rpop k", "llen k", "lrange k 0 -1", "lrange k x y"}
}

// does asks for what a request makes of v, and tells.
func does(t *testing.T, v api.Value, args []string, want api.Value, told []byte) {
	t.Helper()
	w, b := lists.Do(v, args)
	if !value.Same(w, want) || string(b) != string(told) {
		t.Errorf("Do(%v, %q) = %v, %q, not %v, %q", v, args, w, b, want, told)
	}
	if !value.Right(w) {
		t.Errorf("Do(%v, %q) = %v, which may not be", v, args, w)
	}
}

// asked is does of words that blanks part.
func asked(t *testing.T, v api.Value, request string, want api.Value, told []byte) {
	t.Helper()
	does(t, v, strings.Split(request, " "), want, told)
}

// stays asks for an Err, with which v is as it was.
func stays(t *testing.T, v api.Value, request, says string) {
	t.Helper()
	asked(t, v, request, v, reply.Err(says))
}

// P12.1: of commands that are not named, v, and no bytes.
func TestUnnamed(t *testing.T) {
	values := append(others(), api.Value{}, list("1"), list("1", "", "1"))
	ours := []string{"lpush", "rpush", "lpop", "rpop", "llen", "lrange"}
	names := []string{"", "nix", "lpushx", "lpo", "push", "pop", "llen ", " llen", "rrange", "rlen"}
	for id := range table.Count() {
		c, _ := table.At(id)
		if !slices.Contains(ours, c.Name) {
			names = append(names, c.Name, strings.ToUpper(c.Name))
		}
	}
	for _, v := range values {
		for _, name := range names {
			does(t, v, []string{name, "k", "1", "2"}, v, nil)
			does(t, v, []string{name}, v, nil)
		}
	}
}

// P12.1: a value that is neither none nor a list is told ahead of all else, and stays.
func TestWrongType(t *testing.T) {
	for _, v := range others() {
		for _, request := range named() {
			stays(t, v, request, api.WrongType)
		}
	}
}

// P12.1: lpush puts each word ahead of the list, in order, and tells how many there are then.
func TestLpush(t *testing.T) {
	asked(t, list("a"), "lpush k b c", list("c", "b", "a"), reply.Int(3))
	asked(t, list("a"), "lpush k b", list("b", "a"), reply.Int(2))
	asked(t, list("a", "b"), "lpush k b b a", list("a", "b", "b", "a", "b"), reply.Int(5))
	asked(t, list(), "lpush k x", list("x"), reply.Int(1))
	asked(t, list(), "lpush k x y z", list("z", "y", "x"), reply.Int(3))
	does(t, list("a"), []string{"lpush", "k", "", "\r\n\xff"}, list("\r\n\xff", "", "a"), reply.Int(3))
	does(t, list(), []string{"lpush", "k", ""}, list(""), reply.Int(1))
}

// P12.1: rpush puts each word behind the list, in order, and tells how many there are then.
func TestRpush(t *testing.T) {
	asked(t, list("a"), "rpush k b c", list("a", "b", "c"), reply.Int(3))
	asked(t, list("a"), "rpush k b", list("a", "b"), reply.Int(2))
	asked(t, list("b", "a"), "rpush k a b b", list("b", "a", "a", "b", "b"), reply.Int(5))
	asked(t, list(), "rpush k x", list("x"), reply.Int(1))
	asked(t, list(), "rpush k x y z", list("x", "y", "z"), reply.Int(3))
	does(t, list("a"), []string{"rpush", "k", "", "\r\n\xff"}, list("a", "", "\r\n\xff"), reply.Int(3))
	does(t, list(), []string{"rpush", "k", ""}, list(""), reply.Int(1))
}

// P12.1: a request's words are 32 at most: all of them are put.
func TestManyWords(t *testing.T) {
	words := []string{}
	for i := range api.MaxArgs - 2 {
		words = append(words, "w"+strconv.Itoa(i))
	}
	turned := slices.Clone(words)
	slices.Reverse(turned)
	does(t, list("a"), append([]string{"rpush", "k"}, words...), list(append([]string{"a"}, words...)...), reply.Int(31))
	does(t, list("a"), append([]string{"lpush", "k"}, words...), list(append(turned, "a")...), reply.Int(31))
}

// P12.1: lpop takes the first one out, and tells it.
func TestLpop(t *testing.T) {
	asked(t, list("a", "b", "c"), "lpop k", list("b", "c"), reply.Bulk("a"))
	asked(t, list("a", "a"), "lpop k", list("a"), reply.Bulk("a"))
	asked(t, list("", "b"), "lpop k", list("b"), reply.Bulk(""))
	asked(t, list("\r\n\xff", "b"), "lpop k", list("b"), reply.Bulk("\r\n\xff"))
	asked(t, list(), "lpop k", list(), reply.Null())
}

// P12.1: rpop takes the last one out, and tells it.
func TestRpop(t *testing.T) {
	asked(t, list("a", "b", "c"), "rpop k", list("a", "b"), reply.Bulk("c"))
	asked(t, list("a", "a"), "rpop k", list("a"), reply.Bulk("a"))
	asked(t, list("b", ""), "rpop k", list("b"), reply.Bulk(""))
	asked(t, list("b", "\r\n\xff"), "rpop k", list("b"), reply.Bulk("\r\n\xff"))
	asked(t, list(), "rpop k", list(), reply.Null())
}

// P12.1: a list from which the last text is taken is none.
func TestLastIsTaken(t *testing.T) {
	for _, s := range []string{"a", "", "\r\n"} {
		for _, request := range []string{"lpop k", "rpop k"} {
			asked(t, list(s), request, api.Value{}, reply.Bulk(s))
		}
	}
}

// P12.1: llen tells how many there are, and changes nothing.
func TestLlen(t *testing.T) {
	asked(t, list(), "llen k", list(), reply.Int(0))
	asked(t, list(""), "llen k", list(""), reply.Int(1))
	asked(t, list("a", "b", "a"), "llen k", list("a", "b", "a"), reply.Int(3))
	many := make([]string, 300)
	asked(t, list(many...), "llen k", list(many...), reply.Int(300))
}

// P12.1: lrange tells those from a place on up to another, both with them, and changes nothing.
func TestLrange(t *testing.T) {
	v := list("a", "b", "c")
	for _, x := range []struct{ a, b, want string }{
		{"-2", "9", "bc"}, {"0", "-1", "abc"}, {"0", "2", "abc"}, {"0", "0", "a"}, {"1", "1", "b"},
		{"1", "-1", "bc"}, {"2", "2", "c"}, {"-1", "-1", "c"}, {"-3", "-2", "ab"}, {"-9", "0", "a"},
		{"-9", "9", "abc"}, {"-3", "0", "a"}, {"2", "1", ""}, {"3", "9", ""}, {"-1", "0", ""},
		{"-9", "-4", ""}, {"0", "-4", ""}, {"0", "-3", "a"},
		{"-9223372036854775808", "9223372036854775807", "abc"},
		{"9223372036854775807", "9223372036854775807", ""},
		{"9223372036854775807", "-9223372036854775808", ""},
		{"-9223372036854775808", "-9223372036854775808", ""},
	} {
		want := strings.Split(x.want, "")
		asked(t, v, "lrange k "+x.a+" "+x.b, v, reply.Texts(want...))
		asked(t, list(), "lrange k "+x.a+" "+x.b, list(), reply.Texts())
	}
	v = list("", "\r\n\xff", "")
	asked(t, v, "lrange k 0 1", v, reply.Texts("", "\r\n\xff"))
}

// P12.1: a place that is no number is told, and the list stays.
func TestNotInt(t *testing.T) {
	wrong := []string{"", "x", "+1", "01", "-0", "1.0", "1e3", "0x1", "1_0", "--1", "-", " 1", "1 ", "9223372036854775808", "-9223372036854775809", "1\r\n"}
	for _, v := range []api.Value{list(), list("a"), list("1", "2", "3")} {
		for _, s := range wrong {
			does(t, v, []string{"lrange", "k", s, "0"}, v, reply.Err(api.NotInt))
			does(t, v, []string{"lrange", "k", "0", s}, v, reply.Err(api.NotInt))
			does(t, v, []string{"lrange", "k", s, s}, v, reply.Err(api.NotInt))
			does(t, v, []string{"lrange", "k", "5", s}, v, reply.Err(api.NotInt))
		}
	}
}

// P12.1: a command's name is one in any letters, as requests that fit have it; no other word is changed.
func TestLetters(t *testing.T) {
	asked(t, list("a"), "LPUSH k B", list("B", "a"), reply.Int(2))
	asked(t, list("a"), "RPush k B", list("a", "B"), reply.Int(2))
	asked(t, list("A", "b"), "lPOP k", list("b"), reply.Bulk("A"))
	asked(t, list("a", "B"), "Rpop k", list("a"), reply.Bulk("B"))
	asked(t, list("a", "B"), "LLEN k", list("a", "B"), reply.Int(2))
	asked(t, list("a", "B"), "LRANGE k 0 -1", list("a", "B"), reply.Texts("a", "B"))
}

// P12.1: the key's name does not matter, and neither does a number in it.
func TestKeyNames(t *testing.T) {
	for _, key := range []string{"", "lpop", "7", "x\r\n"} {
		does(t, list("a"), []string{"lpush", key, "b"}, list("b", "a"), reply.Int(2))
		does(t, list("a"), []string{"rpush", key, "b"}, list("a", "b"), reply.Int(2))
		does(t, list("a", "b"), []string{"lpop", key}, list("b"), reply.Bulk("a"))
		does(t, list("a", "b"), []string{"rpop", key}, list("a"), reply.Bulk("b"))
		does(t, list("a", "b"), []string{"llen", key}, list("a", "b"), reply.Int(2))
		does(t, list("a", "b"), []string{"lrange", key, "1", "1"}, list("a", "b"), reply.Texts("b"))
	}
}

// P12.1: nothing panics, whatever the words: of words that are too few, v, and no bytes.
func TestTooFewWords(t *testing.T) {
	fewest := []string{"lpush k 1", "rpush k 1", "lpop k", "rpop k", "llen k", "lrange k 0 -1"}
	for _, v := range append(others(), api.Value{}, list("1", "2")) {
		does(t, v, nil, v, nil)
		does(t, v, []string{}, v, nil)
		for _, request := range fewest {
			args := strings.Split(request, " ")
			for n := 1; n < len(args); n++ {
				does(t, v, args[:n], v, nil)
			}
		}
	}
}

// P12.1: nothing panics, whatever the value: one that may not be has no list, or a strange one.
func TestStrangeValues(t *testing.T) {
	for _, v := range []api.Value{{Kind: api.KList}, {Kind: api.KList, L: []string{}}, {L: []string{"a"}}, {Kind: 6}, {Kind: 255, L: []string{"a"}}} {
		for _, request := range named() {
			if _, told := lists.Do(v, strings.Split(request, " ")); len(told) == 0 {
				t.Errorf("Do(%v, %q) tells nothing", v, request)
			}
		}
	}
}

// P12.1: what is handed in is not changed, and what is told is the caller's own.
func TestOwn(t *testing.T) {
	// Room behind the row, and behind the words, is the caller's too.
	row := append(make([]string, 0, 8), "1", "2", "3")
	for _, v := range append(others(), api.Value{}, list("12"), list(row...)) {
		was := value.Own(v)
		for _, request := range named() {
			args := strings.Split(strings.ToUpper(request), " ")
			args = append(make([]string, 0, 16), args...)
			words := slices.Clone(args)
			first, told := lists.Do(v, args)
			kept, anew := value.Own(first), string(told)
			spoil(first)
			for i := range told {
				told[i] = '!'
			}
			if !value.Same(v, was) || !slices.Equal(args, words) {
				t.Errorf("what Do(%v, %q) tells is its argument", was, words)
			}
			again, told := lists.Do(v, args)
			for i := range args {
				args[i] = "!"
			}
			if !value.Same(kept, again) || string(told) != anew {
				t.Errorf("Do(%v, %q) = %v, %q, then %v, %q", was, words, kept, anew, again, told)
			}
		}
	}
	for i, s := range row[:8] {
		if i >= 3 && s != "" {
			t.Errorf("behind the row there is %q", s)
		}
	}
}

// spoil writes into each row of v, and into the room behind.
func spoil(v api.Value) {
	for i := range v.L {
		v.L[i] = "!"
	}
	_ = append(v.L, "!", "!")
	for i := range v.H {
		v.H[i].Val = "!"
	}
	for i := range v.Z {
		v.Z[i].N = -99
	}
}

// P12.2: what was put behind is taken from behind, and what was put ahead from ahead.
func TestPutIsTaken(t *testing.T) {
	for _, side := range []string{"l", "r"} {
		for _, v := range []api.Value{list(), list("x"), list("x", "y", "")} {
			was := value.Own(v)
			w, _ := lists.Do(v, []string{side + "push", "k", "a", "", "b", "a"})
			for _, s := range []string{"a", "b", "", "a"} {
				var told []byte
				w, told = lists.Do(w, []string{side + "pop", "k"})
				if string(told) != string(reply.Bulk(s)) {
					t.Errorf("%spop tells %q, not %q", side, told, s)
				}
			}
			if !value.Same(w, was) {
				t.Errorf("%v, put to and taken from, is %v", was, w)
			}
		}
	}
}

// P12.2: what is put at the one end of none is taken from the other in order.
func TestPutIsTakenInOrder(t *testing.T) {
	for _, x := range []struct{ put, take string }{{"lpush", "rpop"}, {"rpush", "lpop"}} {
		v, _ := lists.Do(list(), []string{x.put, "k", "a", "b"})
		v, _ = lists.Do(v, []string{x.put, "k", "c"})
		for _, s := range []string{"a", "b", "c"} {
			var told []byte
			v, told = lists.Do(v, []string{x.take, "k"})
			if string(told) != string(reply.Bulk(s)) {
				t.Errorf("%s tells %q, not %q", x.take, told, s)
			}
		}
		asked(t, v, x.take+" k", api.Value{}, reply.Null())
	}
}

// P12.1, P12.2: many requests, one behind the other, against a row that is put to and taken from one by one.
func TestAgainstARow(t *testing.T) {
	r := rand.New(rand.NewSource(12))
	for range 60 {
		var v api.Value
		var row []string
		for range 60 {
			args, told := step(r, &row)
			does(t, v, args, list(row...), told)
			v, _ = lists.Do(v, args)
		}
	}
}

// step picks a request, does it to row one text after the other, and tells the reply.
func step(r *rand.Rand, row *[]string) ([]string, []byte) {
	l := *row
	switch r.Intn(6) {
	case 0, 1:
		args := []string{"lpush", "k"}
		for range 1 + r.Intn(3) {
			s := strconv.Itoa(r.Intn(5))
			args = append(args, s)
			l = slices.Insert(l, 0, s)
		}
		*row = l
		return args, reply.Int(len(l))
	case 2:
		s := strconv.Itoa(r.Intn(5))
		*row = append(l, s)
		return []string{"rpush", "k", s}, reply.Int(len(l) + 1)
	case 3:
		if len(l) == 0 {
			return []string{"lpop", "k"}, reply.Null()
		}
		*row = slices.Clone(l[1:])
		return []string{"lpop", "k"}, reply.Bulk(l[0])
	case 4:
		if len(l) == 0 {
			return []string{"rpop", "k"}, reply.Null()
		}
		*row = slices.Clone(l[:len(l)-1])
		return []string{"rpop", "k"}, reply.Bulk(l[len(l)-1])
	}
	a, b := r.Intn(16)-8, r.Intn(16)-8
	return []string{"lrange", "k", strconv.Itoa(a), strconv.Itoa(b)}, reply.Texts(within(l, a, b)...)
}

// within goes through all places, and asks of each one whether it lies between.
func within(l []string, a, b int) []string {
	if a < 0 {
		a += len(l)
	}
	if b < 0 {
		b += len(l)
	}
	var in []string
	for i, s := range l {
		if a <= i && i <= b {
			in = append(in, s)
		}
	}
	return in
}
