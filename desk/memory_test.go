package desk_test

import (
	"fmt"
	"reflect"
	"testing"

	"commonplace/api"
	"commonplace/desk"
)

// roomy: the same value, with spare room behind each list of it, in which there is something.
func roomy[T any](x T) T { return roomyValue(reflect.ValueOf(x)).Interface().(T) }

func roomyValue(v reflect.Value) reflect.Value {
	out := reflect.New(v.Type()).Elem()
	switch v.Kind() {
	case reflect.Struct:
		for i := range v.NumField() {
			out.Field(i).Set(roomyValue(v.Field(i)))
		}
	case reflect.Slice:
		out.Set(reflect.MakeSlice(v.Type(), v.Len()+3, v.Len()+3))
		for i := range v.Len() {
			out.Index(i).Set(roomyValue(v.Index(i)))
		}
		for i := range 3 {
			mark(out.Index(v.Len() + i))
		}
		out.SetLen(v.Len())
	default:
		out.Set(v)
	}
	return out
}

// mark a value that stands in spare room.
func mark(v reflect.Value) {
	switch v.Kind() {
	case reflect.Struct:
		for i := range v.NumField() {
			mark(v.Field(i))
		}
	case reflect.Int:
		v.SetInt(77)
	case reflect.String:
		v.SetString("spare")
	}
}

// whole: all that a value has, the spare room too.
func whole(v reflect.Value) string {
	switch v.Kind() {
	case reflect.Struct:
		out := "{"
		for i := range v.NumField() {
			out += whole(v.Field(i)) + " "
		}
		return out + "}"
	case reflect.Slice:
		out := fmt.Sprint(v.Len(), "[")
		for i := range v.Cap() {
			out += whole(v.Slice(0, v.Cap()).Index(i)) + " "
		}
		return out + "]"
	}
	return fmt.Sprintf("%#v", v.Interface())
}

// memory: where lists are, and whose they are.
type memory map[uintptr]string

// add all lists of a value; tells whose memory one of them shares, if there is any.
func (m memory) add(name string, v reflect.Value) string {
	switch v.Kind() {
	case reflect.Struct:
		for i := range v.NumField() {
			if other := m.add(name+"."+v.Type().Field(i).Name, v.Field(i)); other != "" {
				return other
			}
		}
	case reflect.Slice:
		size := v.Type().Elem().Size()
		for i := range v.Cap() {
			at := v.Pointer() + uintptr(i)*size
			if m[at] != "" {
				return name + " and " + m[at]
			}
			m[at] = name
		}
		for i := range v.Len() {
			inner := memory{}
			if other := inner.add(fmt.Sprint(name, i), v.Index(i)); other != "" {
				return other
			}
			for at, who := range inner {
				if m[at] != "" {
					return who + " and " + m[at]
				}
				m[at] = who
			}
		}
	}
	return ""
}

// free: a note that sets free others that wait at right.
func free() api.Note {
	return note(0, 3, needs(2, 0, 0, 0, 0), put(of(5, 10, 0), "ABC"), take(of(1, 3, 0), 1))
}

// answers of all kinds, of one desk like right, and of notes.
func answers(t *testing.T, d api.Desk, notes []api.Note) map[string]api.Desk {
	t.Helper()
	out := map[string]api.Desk{}
	add := func(name string, x api.Desk, e api.Errno) {
		if e != api.OK {
			t.Fatalf("%s: %d", name, e)
		}
		out[name] = x
	}
	for name, c := range map[string]call{"Type": typing(2, "new"), "Cut": cutting(1, 3), "Cut none": cutting(1, 0), "Write": writing("Hiya you!"), "Write the same": writing("hiyo!")} {
		x, e := c.do(d)
		add(name, x, e)
	}
	for i, n := range notes {
		x, e := desk.Receive(d, n)
		add(fmt.Sprint("Receive ", i), x, e)
	}
	x, e := desk.Taken(d)
	add("Taken", x, e)
	return out
}

// told: notes that are done at once, that wait, and that change nothing.
func told() []api.Note {
	d := right()
	return []api.Note{free(), note(4, 2, needs(0, 0, 0, 0, 1), free().Deeds...), note(3, 2, needs(0, 0, 0, 1, 0), free().Deeds...), d.Waits[0], d.Out[0], note(0, 1, needs(0, 0, 0, 0, 0), free().Deeds...)}
}

func TestP2NewMemory(t *testing.T) {
	d, notes := roomy(right()), roomy(told())
	was := whole(reflect.ValueOf(d)) + whole(reflect.ValueOf(notes))
	if e := desk.Check(d); e != api.OK {
		t.Fatal(e)
	}
	for name, x := range answers(t, d, notes) {
		m := memory{}
		for _, v := range []any{x, d, notes} {
			if other := m.add(fmt.Sprintf("%T", v), reflect.ValueOf(v)); other != "" {
				t.Errorf("%s: %s share memory", name, other)
			}
		}
	}
	if is := whole(reflect.ValueOf(d)) + whole(reflect.ValueOf(notes)); is != was {
		t.Errorf("what was handed in is not as it was:\n%s\n%s", was, is)
	}
	one, _ := desk.New(1)
	two, _ := desk.New(1)
	m := memory{}
	m.add("one", reflect.ValueOf(one))
	if other := m.add("two", reflect.ValueOf(two)); other != "" {
		t.Errorf("New: %s share memory", other)
	}
}

// Lists without elements may be nil or not.
func TestP2EmptyLists(t *testing.T) {
	d := newDesk(t, 0)
	d.State = api.State{Atoms: []api.Atom{}, Gone: []api.Mark{}}
	d.Waits, d.Out = []api.Note{}, []api.Note{}
	if e := desk.Check(d); e != api.OK {
		t.Errorf("%d", e)
	}
	checkType(t, d, 0, "a")
	checkWrite(t, d, "a")
	n := note(1, 1, needs(0, 0, 0, 0, 0), put(of(1, 1, 1), "a"))
	n.Deeds[0].Mark.Path = []api.Step{}
	if got := receive(t, d, n); textOf(got) != "a" {
		t.Errorf("%+v", got)
	}
}

func TestP3SameEachTime(t *testing.T) {
	first := answers(t, right(), told())
	receive(t, newDesk(t, 3), waiting(30)...)
	for range 3 {
		if again := answers(t, roomy(right()), told()); !same(again, first) {
			t.Fatalf("%+v, then %+v", first, again)
		}
	}
}

func TestP4Many(t *testing.T) {
	const many = 1 << 20
	for name, change := range map[string]func(d *api.Desk){
		"atoms": func(d *api.Desk) { d.State.Atoms = make([]api.Atom, many) },
		"gone":  func(d *api.Desk) { d.State.Gone = make([]api.Mark, many) },
		"waits": func(d *api.Desk) { d.Waits = make([]api.Note, many) },
		"out":   func(d *api.Desk) { d.Out = make([]api.Note, many) },
		"deeds": func(d *api.Desk) { d.Out[0].Deeds = make([]api.Deed, many) },
	} {
		d := changed(change)
		if e := desk.Check(d); e != api.ErrMany {
			t.Errorf("%s: %d", name, e)
		}
		fails(t, name, d, api.ErrMany, typing(0, xs(many)), cutting(0, many), writing(xs(many)))
	}
	n := free()
	n.Deeds = make([]api.Deed, many)
	if got, e := desk.Receive(right(), n); e != api.ErrMany || !isZero(got) {
		t.Errorf("a note of very many deeds: %d", e)
	}
	// As much as may be, all at once.
	d := withText(t, 1, apart(xs(260)))
	d.State.Gone = gone(580)
	d.Waits = waiting(40)
	for i := range 499 {
		d.Out = append(d.Out, note(1, 1+i, needs(0, i, 0, 0, 0), put(of(1+i, 1, 1), xs(60))))
	}
	d.Seen[1], d.Clock = 499, 9000
	d = checkWrite(t, d, xs(250)+"0123456789")
	got := receive(t, d, note(0, 1, needs(0, 0, 0, 0, 0), take(d.State.Atoms[0].Mark, 1)))
	if len(got.Waits) != 0 || got.Seen[0] != 41 || len(got.State.Atoms) != 299 {
		t.Errorf("%d wait, seen %v", len(got.Waits), got.Seen)
	}
}
