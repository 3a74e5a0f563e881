package shape

import (
	"math"
	"slices"
	"testing"

	"besom/api"
)

func sh(fields ...int) api.Shape { return api.Shape{Fields: fields} }

// filled has so many fields of one kind.
func filled(n, kind int) api.Shape { return api.Shape{Fields: slices.Repeat([]int{kind}, n)} }

// ints has so many shapes of one number each.
func ints(n int) []api.Shape { return slices.Repeat([]api.Shape{sh(api.Int)}, n) }

// far has kinds that are none, far from those that are.
func far() []int {
	return []int{math.MinInt, math.MinInt + 1, math.MinInt + api.Ptr, math.MinInt + api.Loc, -1 << 32, 1 << 32, 1<<32 + api.Int, 1<<32 + api.Ptr, 1<<32 + api.Loc, -api.Ptr, -api.Loc, math.MaxInt - 1, math.MaxInt}
}

// kinds has those near to the ones that may be, and some far out.
func kinds() []int {
	l := far()
	for k := -40; k <= 200; k++ {
		l = append(l, k)
	}
	return l
}

func wantBool(t *testing.T, what string, a, b int, got, want bool) {
	t.Helper()
	if got != want {
		t.Errorf("%s(%d, %d): %t, not %t", what, a, b, got, want)
	}
}

func wantShape(t *testing.T, what string, kind, got int, is bool, want int, wantIs bool) {
	t.Helper()
	if got != want || is != wantIs {
		t.Errorf("%s(%d): %d %t, not %d %t", what, kind, got, is, want, wantIs)
	}
}

func wantErr(t *testing.T, what string, want api.Errno, l ...api.Shape) {
	t.Helper()
	if got := Check(l...); got != want {
		t.Errorf("Check of %s: %d, not %d", what, got, want)
	}
}

// P401: every kind with every number of shapes that may be.
func TestValidAndField(t *testing.T) {
	for shapes := 0; shapes <= 16; shapes++ {
		for _, kind := range kinds() {
			field := kind == 1 || kind >= 16 && kind < 16+shapes
			place := kind >= 64 && kind < 64+shapes
			wantBool(t, "Valid", kind, shapes, Valid(kind, shapes), field || place)
			wantBool(t, "Field", kind, shapes, Field(kind, shapes), field)
		}
	}
}

// P401: the last number below shapes, and the first that is not.
func TestValidEdges(t *testing.T) {
	for _, shapes := range []int{0, 1, 2, 15, api.MaxShapes} {
		wantBool(t, "Valid", api.Int, shapes, Valid(api.Int, shapes), true)
		wantBool(t, "Field", api.Int, shapes, Field(api.Int, shapes), true)
		wantBool(t, "Valid", api.None, shapes, Valid(api.None, shapes), false)
		wantBool(t, "Field", api.None, shapes, Field(api.None, shapes), false)
		for _, first := range []int{api.Ptr, api.Loc} {
			last, next := first+shapes-1, first+shapes
			wantBool(t, "Valid", last, shapes, Valid(last, shapes), shapes > 0)
			wantBool(t, "Valid", next, shapes, Valid(next, shapes), false)
			wantBool(t, "Field", last, shapes, Field(last, shapes), shapes > 0 && first == api.Ptr)
			wantBool(t, "Field", next, shapes, Field(next, shapes), false)
		}
	}
}

// P401: with a number of shapes that may not be, no kind may be.
func TestValidOfWrongShapes(t *testing.T) {
	for _, shapes := range []int{-1, -2, -16, 17, 18, 32, 64, 1 << 32, -1 << 32, math.MaxInt, math.MinInt} {
		for _, kind := range kinds() {
			wantBool(t, "Valid", kind, shapes, Valid(kind, shapes), false)
			wantBool(t, "Field", kind, shapes, Field(kind, shapes), false)
		}
	}
}

// P401: the shape of each kind that has one, and of none beside them.
func TestPointsAndPlaces(t *testing.T) {
	points, places := map[int]int{}, map[int]int{}
	for s := range 16 {
		points[16+s], places[64+s] = s, s
	}
	for _, kind := range kinds() {
		want, wantIs := points[kind]
		got, is := Points(kind)
		wantShape(t, "Points", kind, got, is, want, wantIs)
		want, wantIs = places[kind]
		got, is = Places(kind)
		wantShape(t, "Places", kind, got, is, want, wantIs)
	}
}

// P401: the kinds on either side of those that point and of those that are places.
func TestPointsAndPlacesEdges(t *testing.T) {
	for _, kind := range []int{api.None, api.Int, api.Ptr - 1, api.Ptr + 16, api.Loc - 1, api.Loc + 16, -1} {
		got, is := Points(kind)
		wantShape(t, "Points", kind, got, is, 0, false)
		got, is = Places(kind)
		wantShape(t, "Places", kind, got, is, 0, false)
	}
}

// P402: how many shapes there may be.
func TestCheckCount(t *testing.T) {
	wantErr(t, "none", api.OK)
	wantErr(t, "a nil list", api.OK, []api.Shape(nil)...)
	for n := 1; n <= 16; n++ {
		wantErr(t, "few enough", api.OK, ints(n)...)
	}
	wantErr(t, "17", api.ErrArg, ints(17)...)
	wantErr(t, "40", api.ErrArg, ints(40)...)
	wantErr(t, "17, the first with a wrong kind", api.ErrArg, append([]api.Shape{sh(api.Loc)}, ints(16)...)...)
}

// P402: how many fields a shape may have.
func TestCheckFields(t *testing.T) {
	wantErr(t, "no field", api.ErrArg, sh())
	wantErr(t, "nil fields", api.ErrArg, api.Shape{})
	for n := 1; n <= 16; n++ {
		wantErr(t, "few enough fields", api.OK, filled(n, api.Ptr))
	}
	wantErr(t, "17 fields", api.ErrArg, filled(17, api.Int))
	wantErr(t, "40 fields", api.ErrArg, filled(40, api.Int))
	wantErr(t, "17 fields of a wrong kind", api.ErrArg, filled(17, api.Loc))
	wantErr(t, "no field behind a good shape", api.ErrArg, sh(api.Int), sh())
}

// P402: each kind as a field's, of one shape, of two, of as many as may be.
func TestCheckKinds(t *testing.T) {
	for _, n := range []int{1, 2, 15, 16} {
		for _, kind := range kinds() {
			want := api.ErrKind
			if Field(kind, n) {
				want = api.OK
			}
			l := ints(n)
			l[n-1] = sh(kind)
			wantErr(t, "one field of a kind", want, l...)
			l[n-1] = sh(api.Int, api.Ptr, kind, api.Ptr)
			wantErr(t, "a kind among good ones", want, l...)
			l[n-1] = sh(kind, api.Int, kind)
			wantErr(t, "a kind that comes twice", want, l...)
		}
	}
}

// P402: a pointer may lead to a shape that comes later, or to its own.
func TestCheckLaterShapes(t *testing.T) {
	wantErr(t, "shapes that point to each other", api.OK, sh(api.Ptr+1), sh(api.Ptr))
	wantErr(t, "a shape that points to itself", api.OK, sh(api.Int), sh(api.Ptr+1))
	wantErr(t, "a shape that points behind the last", api.ErrKind, sh(api.Int), sh(api.Ptr+2))
}

// P402: of two shapes with errors the first one's is told.
func TestCheckFirst(t *testing.T) {
	for _, arg := range []api.Shape{sh(), filled(17, api.Int)} {
		for _, kind := range []api.Shape{sh(api.None), sh(api.Int, api.Loc), sh(api.Ptr + 3)} {
			wantErr(t, "a wrong kind, then a wrong number", api.ErrKind, kind, arg)
			wantErr(t, "a wrong number, then a wrong kind", api.ErrArg, arg, kind)
			wantErr(t, "both behind a good one", api.ErrKind, sh(api.Int), kind, arg)
		}
	}
}

// P402: the bits of the pointers, the first field's the lowest.
func TestPointers(t *testing.T) {
	const p, c = api.Ptr, api.Loc
	rows := []struct {
		s    api.Shape
		want uint16
	}{
		{sh(api.Int, p, p+1), 6},
		{sh(), 0},
		{api.Shape{}, 0},
		{sh(p), 1},
		{sh(p + 15), 1},
		{sh(p+16, p-1, p), 4},
		{sh(c, c+15, api.None, api.Int, -1, p), 32},
		{filled(16, p), 1<<16 - 1},
		{filled(17, p), 1<<16 - 1},
		{filled(40, p+3), 1<<16 - 1},
		{sh(append(filled(15, api.Int).Fields, p)...), 1 << 15},
		{sh(append(filled(16, api.Int).Fields, p)...), 0},
		{sh(append(filled(16, p).Fields, api.Int)...), 1<<16 - 1},
	}
	for _, r := range rows {
		if got := Pointers(r.s); got != r.want {
			t.Errorf("Pointers(%v): %b, not %b", r.s, got, r.want)
		}
	}
	for k := range 16 {
		s := filled(16, api.Int)
		s.Fields[k] = p + k
		if got := Pointers(s); got != 1<<k {
			t.Errorf("Pointers with the field %d: %b", k, got)
		}
	}
	for _, kind := range far() {
		if got := Pointers(sh(kind)); got != 0 {
			t.Errorf("Pointers of the kind %d: %b", kind, got)
		}
	}
}

// P402: the same fields, fewer, more, others, in another order.
func TestSame(t *testing.T) {
	const p = api.Ptr
	rows := []struct {
		a, b api.Shape
		want bool
	}{
		{sh(api.Int, p), sh(api.Int, p), true},
		{sh(api.Int, p), sh(p, api.Int), false},
		{sh(api.Int, p), sh(api.Int), false},
		{sh(api.Int, p), sh(api.Int, p, p), false},
		{sh(api.Int, p), sh(api.Int, p+1), false},
		{sh(p, p), sh(p, p+16), false},
		{sh(), sh(), true},
		{sh(), api.Shape{}, true},
		{sh(), sh(api.None), false},
		{filled(40, p), filled(40, p), true},
		{filled(40, p), filled(39, p), false},
		{sh(-1), sh(-1), true},
	}
	for _, r := range rows {
		if Same(r.a, r.b) != r.want || Same(r.b, r.a) != r.want {
			t.Errorf("Same(%v, %v): not %t", r.a, r.b, r.want)
		}
	}
}

// P402: the fields of some shapes together; a number that comes twice counts twice.
func TestWords(t *testing.T) {
	shapes := []api.Shape{sh(1, 1), sh(1), filled(16, api.Ptr), sh()}
	rows := []struct {
		l    []int
		want int
	}{
		{nil, 0},
		{[]int{0}, 2},
		{[]int{2}, 16},
		{[]int{3}, 0},
		{[]int{0, 1, 2, 3}, 19},
		{[]int{2, 0}, 18},
		{[]int{1, 1}, 2},
		{[]int{0, 1, 1, 4, -1}, 4},
		{[]int{-1, 4, 5, 1 << 32, -1 << 32, math.MaxInt, math.MinInt}, 0},
		{[]int{-1, 2, 4}, 16},
	}
	for _, r := range rows {
		if got := Words(shapes, r.l...); got != r.want {
			t.Errorf("Words of %v: %d, not %d", r.l, got, r.want)
		}
		if got := Words(nil, r.l...); got != 0 {
			t.Errorf("Words of no shapes and %v: %d", r.l, got)
		}
	}
	// A shape counts with all its fields, even where Check would refuse it.
	if got := Words(append(ints(17), filled(17, api.Int)), 16, 17); got != 18 {
		t.Errorf("Words of shapes that are too many: %d, not 18", got)
	}
}

// P401, P402: what is handed in stays as it was.
func TestNothingIsTurned(t *testing.T) {
	fields := func() []int { return []int{api.Ptr + 1, api.Loc, api.Int, -1, api.Ptr, api.Int} }
	shapes := []api.Shape{{Fields: fields()}, {Fields: fields()}, sh()}
	l := []int{2, 0, -1, 1, 1, 9}
	Check(shapes...)
	Check(shapes[2], shapes[0])
	Pointers(shapes[0])
	Same(shapes[0], shapes[1])
	Words(shapes, l...)
	for _, s := range shapes[:2] {
		if !slices.Equal(s.Fields, fields()) {
			t.Errorf("fields were turned: %v", s.Fields)
		}
	}
	if len(shapes[2].Fields) != 0 || !slices.Equal(l, []int{2, 0, -1, 1, 1, 9}) {
		t.Errorf("lists were turned: %v %v", shapes[2], l)
	}
}
