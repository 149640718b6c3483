package texts_test

import (
	"math/rand"
	"slices"
	"strconv"
	"strings"
	"testing"

	"tipstaff/api"
	"tipstaff/reply"
	"tipstaff/table"
	"tipstaff/texts"
	"tipstaff/value"
)

const (
	greatest = "9223372036854775807"
	least    = "-9223372036854775808"
)

func text(s string) api.Value { return api.Value{Kind: api.KText, S: s} }

// others are values of each kind but a text's and none's.
func others() []api.Value {
	return []api.Value{
		{Kind: api.KList, L: []string{"1", "0"}},
		{Kind: api.KHash, H: []api.Pair{{Name: "a", Val: "1"}}},
		{Kind: api.KSet, L: []string{"0", "1"}},
		{Kind: api.KSorted, Z: []api.Mark{{Name: "a", N: 1}}},
	}
}

// named are requests that fit, of each command of the layer.
func named() []string {
	return []string{"get k", "getdel k", "append k 1", "strlen k", "incrby k 5", "incrby k x", "incr k"}
}

// does asks for what a request makes of v, and tells.
func does(t *testing.T, v api.Value, args []string, want api.Value, told []byte) {
	t.Helper()
	w, b := texts.Do(v, args)
	if !value.Same(w, want) || string(b) != string(told) {
		t.Errorf("Do(%v, %q) = %v, %q, not %v, %q", v, args, w, b, want, told)
	}
	if !value.Right(w) {
		t.Errorf("Do(%v, %q) = %v, which may not be", v, args, w)
	}
}

// asked is does of words that blanks part.
func asked(t *testing.T, v api.Value, request string, want api.Value, told []byte) {
	t.Helper()
	does(t, v, strings.Split(request, " "), want, told)
}

// stays asks for an Err, with which v is as it was.
func stays(t *testing.T, v api.Value, request, says string) {
	t.Helper()
	asked(t, v, request, v, reply.Err(says))
}

// P11.1: of commands that are not named, v, and no bytes.
func TestUnnamed(t *testing.T) {
	values := append(others(), api.Value{}, text("1"), text(""))
	ours := []string{"get", "getdel", "append", "strlen", "incrby", "incr"}
	names := []string{"", "nix", "gets", "ge", "get ", " get", "del\x00"}
	for id := range table.Count() {
		c, _ := table.At(id)
		if !slices.Contains(ours, c.Name) {
			names = append(names, c.Name, strings.ToUpper(c.Name))
		}
	}
	for _, v := range values {
		for _, name := range names {
			does(t, v, []string{name, "k", "1", "2"}, v, nil)
			does(t, v, []string{name}, v, nil)
		}
	}
}

// P11.1: a value that is neither none nor a text is told ahead of all else, and stays.
func TestWrongType(t *testing.T) {
	for _, v := range others() {
		for _, request := range named() {
			stays(t, v, request, api.WrongType)
		}
	}
}

// P11.1: get tells the text, and changes nothing.
func TestGet(t *testing.T) {
	for _, s := range []string{"", "x", "a b", "\r\n", "\x00\xff", "-1", strings.Repeat("y", 3000)} {
		asked(t, text(s), "get k", text(s), reply.Bulk(s))
	}
	asked(t, api.Value{}, "get k", api.Value{}, reply.Null())
}

// P11.1: getdel tells the text, and there is none then.
func TestGetDel(t *testing.T) {
	for _, s := range []string{"", "x", "\r\n\xff", "17"} {
		asked(t, text(s), "getdel k", api.Value{}, reply.Bulk(s))
	}
	asked(t, api.Value{}, "getdel k", api.Value{}, reply.Null())
}

// P11.1: append puts the third word behind the text, and tells how many bytes that has.
func TestAppend(t *testing.T) {
	asked(t, text("ab"), "append k cd", text("abcd"), reply.Int(4))
	asked(t, text(""), "append k cd", text("cd"), reply.Int(2))
	asked(t, text("ab"), "append k ", text("ab"), reply.Int(2))
	asked(t, api.Value{}, "append k x", text("x"), reply.Int(1))
	asked(t, text("1"), "append k 2", text("12"), reply.Int(2))
	asked(t, text("ä"), "append k \x00\r\n", text("ä\x00\r\n"), reply.Int(5))
	// The empty text is something: none becomes a text by it.
	asked(t, api.Value{}, "append k ", text(""), reply.Int(0))
}

// P11.1: strlen tells how many bytes there are, and changes nothing.
func TestStrlen(t *testing.T) {
	asked(t, text("abc"), "strlen k", text("abc"), reply.Int(3))
	asked(t, text("ä\r\n"), "strlen k", text("ä\r\n"), reply.Int(4))
	asked(t, text(""), "strlen k", text(""), reply.Int(0))
	asked(t, api.Value{}, "strlen k", api.Value{}, reply.Int(0))
}

// P11.1: incr and incrby add to the number that the text tells; none is 0.
func TestIncr(t *testing.T) {
	asked(t, text("9"), "incr k", text("10"), reply.Int(10))
	asked(t, text("-1"), "incr k", text("0"), reply.Int(0))
	asked(t, api.Value{}, "incr k", text("1"), reply.Int(1))
	asked(t, text("9"), "incrby k 5", text("14"), reply.Int(14))
	asked(t, text("9"), "incrby k -10", text("-1"), reply.Int(-1))
	asked(t, text("9"), "incrby k 0", text("9"), reply.Int(9))
	asked(t, api.Value{}, "incrby k 0", text("0"), reply.Int(0))
	asked(t, api.Value{}, "incrby k -7", text("-7"), reply.Int(-7))
	asked(t, api.Value{}, "incrby k "+least, text(least), reply.Int(-1<<63))
	asked(t, text(least), "incrby k "+greatest, text("-1"), reply.Int(-1))
	asked(t, text("9223372036854775806"), "incr k", text(greatest), reply.Int(1<<63-1))
	asked(t, text("-9223372036854775807"), "incrby k -1", text(least), reply.Int(-1<<63))
}

// P11.1: a by, or a text, that is no number is told, and the text stays.
func TestNotInt(t *testing.T) {
	wrong := []string{"", "x", "+1", "01", "-0", "1.0", "1e3", "0x1", "1_0", "--1", "-", "9223372036854775808", "-9223372036854775809", "1\r\n"}
	for _, s := range wrong {
		stays(t, text(s), "incr k", api.NotInt)
		stays(t, text(s), "incrby k 5", api.NotInt)
		stays(t, text(s), "incrby k "+s, api.NotInt)
		stays(t, text("5"), "incrby k "+s, api.NotInt)
		stays(t, api.Value{}, "incrby k "+s, api.NotInt)
	}
	for _, s := range []string{" 1", "1 "} {
		stays(t, text(s), "incr k", api.NotInt)
		does(t, text("1"), []string{"incrby", "k", s}, text("1"), reply.Err(api.NotInt))
	}
	stays(t, text("x"), "incrby k "+greatest, api.NotInt)
}

// P11.1: what does not fit together is told, and the text stays.
func TestOverflow(t *testing.T) {
	stays(t, text(greatest), "incr k", api.Overflow)
	stays(t, text(greatest), "incrby k "+greatest, api.Overflow)
	stays(t, text("1"), "incrby k "+greatest, api.Overflow)
	stays(t, text(least), "incrby k -1", api.Overflow)
	stays(t, text("-1"), "incrby k "+least, api.Overflow)
	stays(t, text(least), "incrby k "+least, api.Overflow)
}

// P11.1: a command's name is one in any letters, as requests that fit have it; no other word is changed.
func TestLetters(t *testing.T) {
	asked(t, text("aB"), "GET k", text("aB"), reply.Bulk("aB"))
	asked(t, text("aB"), "GetDel k", api.Value{}, reply.Bulk("aB"))
	asked(t, text("aB"), "APPEND k Cd", text("aBCd"), reply.Int(4))
	asked(t, text("aB"), "StrLen k", text("aB"), reply.Int(2))
	asked(t, text("1"), "INCRBY k 2", text("3"), reply.Int(3))
	asked(t, text("1"), "iNCR k", text("2"), reply.Int(2))
}

// P11.1: the key's name does not matter, and neither does a number in it.
func TestKeyNames(t *testing.T) {
	for _, key := range []string{"", "get", "7", "x\r\n"} {
		does(t, text("5"), []string{"get", key}, text("5"), reply.Bulk("5"))
		does(t, text("5"), []string{"incr", key}, text("6"), reply.Int(6))
		does(t, text("5"), []string{"incrby", key, "2"}, text("7"), reply.Int(7))
		does(t, text("5"), []string{"append", key, "2"}, text("52"), reply.Int(2))
	}
}

// P11.1: nothing panics, whatever the words: of words that are too few, v, and no bytes.
func TestTooFewWords(t *testing.T) {
	for _, v := range append(others(), api.Value{}, text("1")) {
		does(t, v, nil, v, nil)
		does(t, v, []string{}, v, nil)
		for _, request := range named() {
			args := strings.Split(request, " ")
			does(t, v, args[:len(args)-1], v, nil)
			does(t, v, args[:1], v, nil)
		}
	}
}

// P11.1: what is handed in is not changed, and what is told is the caller's own.
func TestOwn(t *testing.T) {
	for _, v := range append(others(), api.Value{}, text("12")) {
		was := value.Own(v)
		for _, request := range named() {
			args := strings.Split(strings.ToUpper(request), " ")
			words := slices.Clone(args)
			first, told := texts.Do(v, args)
			kept := string(told)
			for i := range told {
				told[i] = '!'
			}
			again, anew := texts.Do(v, args)
			if !value.Same(v, was) || !slices.Equal(args, words) {
				t.Errorf("Do(%v, %q) leaves %v, %q", was, words, v, args)
			}
			if !value.Same(first, again) || string(anew) != kept {
				t.Errorf("Do(%v, %q) = %v, %q, then %v, %q", v, args, first, kept, again, anew)
			}
		}
	}
}

// P11.1: a value that stays shares no row with the one that was handed in.
func TestRows(t *testing.T) {
	for _, request := range append(named(), "lpush k 1") {
		for _, v := range others() {
			was := value.Own(v)
			w, _ := texts.Do(v, strings.Split(request, " "))
			spoil(w)
			if !value.Same(v, was) {
				t.Errorf("what Do(%v, %q) tells is its argument", was, request)
			}
		}
	}
}

// spoil writes into each row of v.
func spoil(v api.Value) {
	for i := range v.L {
		v.L[i] = "!"
	}
	for i := range v.H {
		v.H[i].Val = "!"
	}
	for i := range v.Z {
		v.Z[i].N = -99
	}
}

// P11.2: what was appended is got, behind all that was there.
func TestAppendedIsGot(t *testing.T) {
	r := rand.New(rand.NewSource(11))
	for range 50 {
		var v api.Value
		all := ""
		for range 20 {
			b := make([]byte, r.Intn(6))
			for i := range b {
				b[i] = byte(r.Intn(256))
			}
			all += string(b)
			v, _ = texts.Do(v, []string{"append", "k", string(b)})
			does(t, v, []string{"get", "k"}, text(all), reply.Bulk(all))
			does(t, v, []string{"strlen", "k"}, text(all), reply.Int(len(all)))
		}
		does(t, v, []string{"getdel", "k"}, api.Value{}, reply.Bulk(all))
	}
}

// P11.2: digits that were appended are a number, and a number can be appended to.
func TestAppendedIsAdded(t *testing.T) {
	v, _ := texts.Do(api.Value{}, []string{"incrby", "k", "4"})
	v, _ = texts.Do(v, []string{"append", "k", "2"})
	asked(t, v, "incr k", text("43"), reply.Int(43))
	sum := 0
	v = api.Value{}
	for by := -40; by < 60; by += 7 {
		sum += by
		s := strconv.Itoa(sum)
		does(t, v, []string{"incrby", "k", strconv.Itoa(by)}, text(s), reply.Int(sum))
		v, _ = texts.Do(v, []string{"incrby", "k", strconv.Itoa(by)})
		asked(t, v, "get k", text(s), reply.Bulk(s))
	}
}
