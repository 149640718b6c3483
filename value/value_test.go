package value_test

import (
	"math"
	"reflect"
	"slices"
	"strconv"
	"strings"
	"testing"

	"tipstaff/api"
	"tipstaff/value"
)

func text(s string) api.Value { return api.Value{Kind: api.KText, S: s} }

func list(l ...string) api.Value { return api.Value{Kind: api.KList, L: l} }

func set(l ...string) api.Value { return api.Value{Kind: api.KSet, L: l} }

func hash(h ...api.Pair) api.Value { return api.Value{Kind: api.KHash, H: h} }

func sorted(z ...api.Mark) api.Value { return api.Value{Kind: api.KSorted, Z: z} }

// names makes a hash with names alone.
func names(l ...string) api.Value {
	var h []api.Pair
	for _, s := range l {
		h = append(h, api.Pair{Name: s, Val: "v"})
	}
	return hash(h...)
}

func right(t *testing.T, want bool, l ...api.Value) {
	t.Helper()
	for _, v := range l {
		if value.Right(v) != want {
			t.Errorf("Right(%.200v) is not %v", v, want)
		}
	}
}

// samples are values that may be, of each kind.
func samples() []api.Value {
	return []api.Value{
		{},
		text("x"), text(""), text("9"),
		list("b", "a"), list("a"), list("", ""),
		names("a", "b"), hash(api.Pair{Name: "a", Val: "1"}), hash(api.Pair{}),
		set("a", "b"), set("a"), set(""),
		sorted(api.Mark{Name: "b", N: 1}, api.Mark{Name: "a", N: 2}), sorted(api.Mark{Name: "a", N: 1}), sorted(api.Mark{}),
	}
}

// P9.1: nothing, and any text.
func TestRightNoneAndText(t *testing.T) {
	right(t, true, api.Value{}, api.Value{L: []string{}, H: []api.Pair{}, Z: []api.Mark{}})
	right(t, true, text(""), text("a"), text("\x00\xff\r\n"), text("12"), text(strings.Repeat("x", 1<<17)))
	right(t, false, api.Value{S: "a"}, api.Value{L: []string{""}}, api.Value{H: []api.Pair{{}}}, api.Value{Z: []api.Mark{{}}})
}

// P9.1: lists, in any order, whatever stands twice.
func TestRightList(t *testing.T) {
	right(t, true, list("a"), list(""), list("b", "a"), list("a", "a"), list("c", "a", "c", ""))
	right(t, false, list(), list([]string{}...), api.Value{Kind: api.KList, L: []string{}})
}

// P9.1: hashes, whose names rise, byte by byte, the shorter ahead.
func TestRightHash(t *testing.T) {
	right(t, true, names("a"), names(""), names("", "a"), names("a", "b"), names("a", "aa", "ab", "b"), names("B", "a"),
		names("10", "9"), names("a", "a\x00"), names("\x7f", "\x80", "\xff"), names("z", "\u00e9"), names("\uffff", "\U00010000"),
		hash(api.Pair{Name: "a", Val: "z"}, api.Pair{Name: "b", Val: ""}), hash(api.Pair{Name: "a", Val: "x"}, api.Pair{Name: "b", Val: "x"}))
	right(t, false, names(), api.Value{Kind: api.KHash, H: []api.Pair{}}, names("b", "a"), names("a", "a"), names("a", ""), names("", ""),
		names("aa", "a"), names("a", "B"), names("9", "10"), names("\xff", "\x7f"), names("a", "b", "b"), names("a", "a", "b"), names("a", "c", "b"), names("b", "a", "c"),
		names("\U00010000", "\uffff"), hash(api.Pair{Name: "a", Val: "1"}, api.Pair{Name: "a", Val: "2"}))
}

// P9.1: sets, whose texts rise likewise.
func TestRightSet(t *testing.T) {
	right(t, true, set("a"), set(""), set("", "a"), set("a", "b"), set("a", "aa", "ab", "b"), set("B", "a"), set("10", "9"),
		set("a", "a\x00"), set("\x7f", "\x80", "\xff"), set("\uffff", "\U00010000"))
	right(t, false, set(), api.Value{Kind: api.KSet, L: []string{}}, set("b", "a"), set("a", "a"), set("a", ""), set("", ""),
		set("aa", "a"), set("a", "B"), set("9", "10"), set("\xff", "\x7f"), set("a", "b", "b"), set("a", "a", "b"), set("a", "c", "b"), set("b", "a", "c"))
}

// P9.1: sorted sets, whose marks rise by number, then by name, and have names of their own.
func TestRightSorted(t *testing.T) {
	right(t, true,
		sorted(api.Mark{Name: "a", N: 1}), sorted(api.Mark{}), sorted(api.Mark{Name: "", N: -1}, api.Mark{Name: "a", N: -1}),
		sorted(api.Mark{Name: "b", N: 1}, api.Mark{Name: "a", N: 2}),
		sorted(api.Mark{Name: "a", N: 1}, api.Mark{Name: "b", N: 1}, api.Mark{Name: "ba", N: 1}),
		sorted(api.Mark{Name: "a", N: 9}, api.Mark{Name: "b", N: 10}),
		sorted(api.Mark{Name: "c", N: -10}, api.Mark{Name: "b", N: -9}, api.Mark{Name: "a", N: 0}),
		sorted(api.Mark{Name: "b", N: math.MinInt}, api.Mark{Name: "a", N: math.MaxInt}),
		sorted(api.Mark{Name: "b", N: -2}, api.Mark{Name: "a", N: math.MaxInt}),
		sorted(api.Mark{Name: "b", N: 1<<53 - 1}, api.Mark{Name: "a", N: 1 << 53}, api.Mark{Name: "A", N: 1<<53 + 1}),
		sorted(api.Mark{Name: "\x7f", N: 0}, api.Mark{Name: "\xff", N: 0}))
	right(t, false,
		sorted(), api.Value{Kind: api.KSorted, Z: []api.Mark{}},
		sorted(api.Mark{Name: "a", N: 2}, api.Mark{Name: "b", N: 1}),
		sorted(api.Mark{Name: "b", N: 1}, api.Mark{Name: "a", N: 1}),
		sorted(api.Mark{Name: "a", N: 1}, api.Mark{Name: "a", N: 1}),
		sorted(api.Mark{Name: "a", N: 1}, api.Mark{Name: "a", N: 2}),
		sorted(api.Mark{Name: "a", N: 1}, api.Mark{Name: "b", N: 2}, api.Mark{Name: "a", N: 3}),
		sorted(api.Mark{Name: "b", N: 1}, api.Mark{Name: "a", N: 2}, api.Mark{Name: "c", N: 2}, api.Mark{Name: "b", N: 2}),
		sorted(api.Mark{Name: "", N: 1}, api.Mark{Name: "a", N: 2}, api.Mark{Name: "", N: 3}),
		sorted(api.Mark{Name: "a", N: math.MaxInt}, api.Mark{Name: "b", N: math.MinInt}),
		sorted(api.Mark{Name: "a", N: math.MaxInt}, api.Mark{Name: "b", N: -2}),
		sorted(api.Mark{Name: "a", N: 1}, api.Mark{Name: "b", N: 3}, api.Mark{Name: "c", N: 2}),
		sorted(api.Mark{Name: "b", N: 1 << 53}, api.Mark{Name: "a", N: 1 << 53}),
		sorted(api.Mark{Name: "a", N: 1<<53 + 1}, api.Mark{Name: "b", N: 1 << 53}))
}

// P9.1: what a kind does not have is empty.
func TestRightOtherParts(t *testing.T) {
	for _, v := range samples() {
		right(t, true, v)
		for field, add := range map[string]func(*api.Value){
			"S": func(v *api.Value) { v.S = "s" },
			"L": func(v *api.Value) { v.L = []string{"s"} },
			"H": func(v *api.Value) { v.H = []api.Pair{{}} },
			"Z": func(v *api.Value) { v.Z = []api.Mark{{}} },
		} {
			more := v
			add(&more)
			own := strings.Contains([]string{"", "S", "L", "H", "L", "Z"}[v.Kind], field)
			right(t, own, more)
		}
		empty := v
		if empty.L == nil {
			empty.L = []string{}
		}
		if empty.H == nil {
			empty.H = []api.Pair{}
		}
		if empty.Z == nil {
			empty.Z = []api.Mark{}
		}
		right(t, true, empty)
	}
}

// P9.1: no other kind may be, whatever it has.
func TestRightOtherKinds(t *testing.T) {
	for kind := 6; kind < 256; kind++ {
		for _, v := range samples() {
			v.Kind = uint8(kind)
			right(t, false, v)
		}
	}
}

// P9.1: all rows of at most four texts, held against the words of the document read one by one.
func TestRightAll(t *testing.T) {
	words := []string{"", "a", "aa", "b"}
	rows := [][]string{{}}
	for at := 0; at < len(rows); at++ {
		if len(rows[at]) < 4 {
			for _, s := range words {
				rows = append(rows, append(slices.Clone(rows[at]), s))
			}
		}
	}
	for _, row := range rows {
		rises, once := len(row) > 0, true
		for i, s := range row {
			once = once && slices.Index(row, s) == i
			rises = rises && (i == 0 || slices.Index(words, row[i-1]) < slices.Index(words, s))
		}
		right(t, len(row) > 0, list(row...))
		right(t, rises, set(row...), names(row...))
		// Numbers that rise let names be in any order, one number asks them to rise.
		var up, flat []api.Mark
		for i, s := range row {
			up = append(up, api.Mark{Name: s, N: i - 2})
			flat = append(flat, api.Mark{Name: s, N: 7})
		}
		right(t, len(row) > 0 && once, sorted(up...))
		right(t, rises, sorted(flat...))
	}
}

// P9.1: long rows, with one fault at their ends.
func TestRightLong(t *testing.T) {
	const many = 20000
	var l []string
	var z []api.Mark
	for i := range many {
		s := strconv.Itoa(many + i)
		l = append(l, s)
		z = append(z, api.Mark{Name: strconv.Itoa(3*many - i), N: i})
	}
	right(t, true, set(l...), names(l...), sorted(z...))
	right(t, false, set(append(l, l[many-1])...), names(append(l, "0")...), sorted(append(z, api.Mark{Name: z[0].Name, N: many})...))
	right(t, false, set(append([]string{l[0]}, l...)...), sorted(append([]api.Mark{{Name: z[many-1].Name, N: -1}}, z...)...))
}

// P9.2: types hang on the kind alone.
func TestType(t *testing.T) {
	types := []string{"none", "string", "list", "hash", "set", "zset"}
	for kind := range 256 {
		want := "none"
		if kind < len(types) {
			want = types[kind]
		}
		for _, v := range samples() {
			v.Kind = uint8(kind)
			if s := value.Type(v); s != want {
				t.Errorf("Type(%v) = %q, not %q", v, s, want)
			}
		}
	}
}

// P9.2: how many there are, by the kind; rows that the kind does not have do not count.
func TestSize(t *testing.T) {
	full := api.Value{S: "abc", L: []string{"a", "b"}, H: []api.Pair{{}, {}, {}}, Z: []api.Mark{{}, {}, {}, {}}}
	sizes := []int{0, 1, 2, 3, 2, 4}
	for kind := range 256 {
		want, least := 0, 0
		if kind < len(sizes) {
			want = sizes[kind]
		}
		if kind == api.KText {
			least = 1
		}
		v := full
		v.Kind = uint8(kind)
		if n := value.Size(v); n != want {
			t.Errorf("Size(%v) = %d, not %d", v, n, want)
		}
		if n := value.Size(api.Value{Kind: uint8(kind)}); n != least {
			t.Errorf("Size of nothing of the kind %d = %d, not %d", kind, n, least)
		}
	}
	for _, x := range []struct {
		v    api.Value
		size int
	}{{text(""), 1}, {text("abc"), 1}, {list("a", "a", "a"), 3}, {names("a"), 1}, {set("a", "b", "c", "d"), 4}, {sorted(api.Mark{}), 1}} {
		if n := value.Size(x.v); n != x.size {
			t.Errorf("Size(%v) = %d, not %d", x.v, n, x.size)
		}
	}
}

func same(t *testing.T, want bool, a, b api.Value) {
	t.Helper()
	if value.Same(a, b) != want || value.Same(b, a) != want {
		t.Errorf("Same(%v, %v) is not %v", a, b, want)
	}
}

// P9.2: each value is the same as itself alone.
func TestSame(t *testing.T) {
	for i, a := range samples() {
		for j, b := range samples() {
			same(t, i == j, a, b)
		}
	}
}

// P9.2: one part that is unlike makes the values unlike, whichever it is, and whatever the kind has.
func TestSameParts(t *testing.T) {
	full := func() api.Value {
		return api.Value{S: "s", L: []string{"a", "b"}, H: []api.Pair{{Name: "a", Val: "1"}, {Name: "b", Val: "2"}}, Z: []api.Mark{{Name: "a", N: 1}, {Name: "b", N: 2}}}
	}
	changes := []func(*api.Value){
		func(v *api.Value) { v.Kind ^= 128 },
		func(v *api.Value) { v.Kind++ },
		func(v *api.Value) { v.S = "" },
		func(v *api.Value) { v.S = "S" },
		func(v *api.Value) { v.S = "s\x00" },
		func(v *api.Value) { v.L = nil },
		func(v *api.Value) { v.L[0] = "A" },
		func(v *api.Value) { v.L[1] = "" },
		func(v *api.Value) { v.L = v.L[:1] },
		func(v *api.Value) { v.L = append(v.L, "") },
		func(v *api.Value) { slices.Reverse(v.L) },
		func(v *api.Value) { v.H = nil },
		func(v *api.Value) { v.H[0].Name = "b" },
		func(v *api.Value) { v.H[1].Val = "1" },
		func(v *api.Value) { v.H = v.H[:1] },
		func(v *api.Value) { v.H = append(v.H, api.Pair{}) },
		func(v *api.Value) { slices.Reverse(v.H) },
		func(v *api.Value) { v.Z = nil },
		func(v *api.Value) { v.Z[0].Name = "b" },
		func(v *api.Value) { v.Z[1].N = -2 },
		func(v *api.Value) { v.Z[1].N += 1 << 32 },
		func(v *api.Value) { v.Z = v.Z[:1] },
		func(v *api.Value) { v.Z = append(v.Z, api.Mark{}) },
		func(v *api.Value) { slices.Reverse(v.Z) },
	}
	for kind := range 256 {
		a, b := full(), full()
		a.Kind, b.Kind = uint8(kind), uint8(kind)
		same(t, true, a, b)
		for i, change := range changes {
			c := full()
			c.Kind = uint8(kind)
			change(&c)
			if value.Same(a, c) || value.Same(c, a) {
				t.Errorf("change %d of kind %d leaves it the same", i, kind)
			}
		}
	}
}

// P9.2: an empty row and none at all are the same.
func TestSameEmpty(t *testing.T) {
	for kind := range uint8(8) {
		none := api.Value{Kind: kind}
		same(t, true, none, api.Value{Kind: kind, L: []string{}})
		same(t, true, none, api.Value{Kind: kind, H: []api.Pair{}})
		same(t, true, none, api.Value{Kind: kind, Z: []api.Mark{}})
		same(t, true, none, api.Value{Kind: kind, L: []string{"a"}[:0], H: []api.Pair{{}}[:0], Z: []api.Mark{{}}[:0]})
		same(t, false, none, api.Value{Kind: kind, L: []string{""}})
		same(t, false, none, api.Value{Kind: kind, H: []api.Pair{{}}})
		same(t, false, none, api.Value{Kind: kind, Z: []api.Mark{{}}})
	}
}

// P9.2: what is told is the same, also of values that may not be.
func TestOwnIsSame(t *testing.T) {
	odd := []api.Value{
		{Kind: 6}, {Kind: 255, S: "s", L: []string{"b", "a"}, H: []api.Pair{{Name: "b", Val: "1"}, {Name: "a"}}, Z: []api.Mark{{Name: "b", N: 2}, {Name: "a", N: 1}}},
		{Kind: api.KList}, {Kind: api.KText, S: "s", L: []string{"a"}}, {L: []string{"a"}}, {H: []api.Pair{{}}}, {Z: []api.Mark{{}}}, {S: "s"},
	}
	for _, v := range append(samples(), odd...) {
		if o := value.Own(v); !reflect.DeepEqual(o, v) || !value.Same(o, v) {
			t.Errorf("Own(%v) = %v", v, o)
		}
	}
	empty := api.Value{L: []string{}, H: []api.Pair{}, Z: []api.Mark{}}
	if o := value.Own(empty); !value.Same(o, empty) || !value.Right(o) {
		t.Errorf("Own(%v) = %v", empty, o)
	}
}

// P9.2: none of the rows is that of the other, to write into or to go on behind.
func TestOwnRows(t *testing.T) {
	make3 := func(kind uint8) api.Value {
		return api.Value{Kind: kind, S: "s", L: []string{"a", "b", "c"}[:2], H: []api.Pair{{Name: "a"}, {Name: "b"}, {Name: "c"}}[:2], Z: []api.Mark{{N: 1}, {N: 2}, {N: 3}}[:2]}
	}
	spoil := func(v api.Value) {
		_, _, _ = append(v.L, "x"), append(v.H, api.Pair{Name: "x"}), append(v.Z, api.Mark{N: 9})
		for i := range v.L {
			v.L[i], v.H[i], v.Z[i] = "x", api.Pair{Name: "x", Val: "x"}, api.Mark{Name: "x", N: 9}
		}
	}
	whole := func(v api.Value) bool {
		return value.Same(v, make3(v.Kind)) && v.L[:3][2] == "c" && v.H[:3][2].Name == "c" && v.Z[:3][2].N == 3
	}
	for kind := range 256 {
		v := make3(uint8(kind))
		spoil(value.Own(v))
		if !whole(v) {
			t.Errorf("%v hangs on what became of its own one", v)
		}
		o := value.Own(v)
		spoil(v)
		if !value.Same(o, make3(uint8(kind))) {
			t.Errorf("%v hangs on what became of the one it is of", o)
		}
		one, other := value.Own(make3(uint8(kind))), value.Own(make3(uint8(kind)))
		spoil(one)
		if !value.Same(other, make3(uint8(kind))) {
			t.Errorf("%v hangs on what became of another", other)
		}
	}
	bare := api.Value{L: []string{"a"}[:0], H: []api.Pair{{Name: "a"}}[:0], Z: []api.Mark{{N: 1}}[:0]}
	o := value.Own(bare)
	_, _, _ = append(o.L, "x"), append(o.H, api.Pair{Name: "x"}), append(o.Z, api.Mark{N: 9})
	if bare.L[:1][0] != "a" || bare.H[:1][0].Name != "a" || bare.Z[:1][0].N != 1 {
		t.Errorf("%v, what is behind an empty row, has been written", bare)
	}
}

// P9.1 and P9.2: what is asked stays as it is.
func TestAskedStays(t *testing.T) {
	odd := api.Value{Kind: api.KSorted, Z: []api.Mark{{Name: "c", N: 1}, {Name: "a", N: 2}, {Name: "b", N: 3}, {Name: "a", N: 4}}}
	for _, v := range append(samples(), odd, set("b", "a"), names("b", "a")) {
		before := api.Value{Kind: v.Kind, S: v.S, L: slices.Clone(v.L), H: slices.Clone(v.H), Z: slices.Clone(v.Z)}
		value.Right(v)
		value.Type(v)
		value.Size(v)
		value.Own(v)
		value.Same(v, v)
		if !reflect.DeepEqual(v, before) {
			t.Errorf("%v became %v", before, v)
		}
	}
}

// P9.3: of values that may be those that have nothing are of no kind, and no other.
func TestNothing(t *testing.T) {
	rows := []api.Value{
		{}, {S: "s"}, {L: []string{}}, {L: []string{"a"}}, {H: []api.Pair{}}, {H: []api.Pair{{Name: "a"}}}, {Z: []api.Mark{}}, {Z: []api.Mark{{Name: "a"}}},
		{L: []string{"a"}, H: []api.Pair{{}}}, {S: "s", Z: []api.Mark{{}}},
	}
	for kind := range 256 {
		for _, v := range rows {
			v.Kind = uint8(kind)
			nothing := value.Size(v) == 0
			if value.Right(v) && nothing != (v.Kind == api.KNone) {
				t.Errorf("%v may be, and its size is %d", v, value.Size(v))
			}
			if value.Right(v) && nothing && (!value.Same(v, api.Value{}) || value.Type(v) != "none") {
				t.Errorf("%v has nothing", v)
			}
		}
	}
	// The empty text is something.
	if !value.Right(text("")) || value.Size(text("")) != 1 || value.Type(text("")) != "string" || value.Same(text(""), api.Value{}) {
		t.Error("the empty text")
	}
}
