package relay_test

import (
	"fmt"
	"reflect"
	"testing"

	"commonplace/api"
	"commonplace/relay"
)

// roomy: the same value, with spare room behind each list of it, in which there is something.
func roomy[T any](x T) T { return roomyValue(reflect.ValueOf(x)).Interface().(T) }

func roomyValue(v reflect.Value) reflect.Value {
	out := reflect.New(v.Type()).Elem()
	switch v.Kind() {
	case reflect.Struct:
		for i := range v.NumField() {
			out.Field(i).Set(roomyValue(v.Field(i)))
		}
	case reflect.Slice:
		out.Set(reflect.MakeSlice(v.Type(), v.Len()+3, v.Len()+3))
		for i := range v.Len() {
			out.Index(i).Set(roomyValue(v.Index(i)))
		}
		for i := range 3 {
			mark(out.Index(v.Len() + i))
		}
		out.SetLen(v.Len())
	default:
		out.Set(v)
	}
	return out
}

// mark a value that stands in spare room.
func mark(v reflect.Value) {
	switch v.Kind() {
	case reflect.Struct:
		for i := range v.NumField() {
			mark(v.Field(i))
		}
	case reflect.Int:
		v.SetInt(77)
	case reflect.String:
		v.SetString("spare")
	}
}

// whole: all that a value has, the spare room too.
func whole(v reflect.Value) string {
	switch v.Kind() {
	case reflect.Struct:
		out := "{"
		for i := range v.NumField() {
			out += whole(v.Field(i)) + " "
		}
		return out + "}"
	case reflect.Slice:
		out := fmt.Sprint(v.Len(), "[")
		for i := range v.Cap() {
			out += whole(v.Slice(0, v.Cap()).Index(i)) + " "
		}
		return out + "]"
	}
	return fmt.Sprintf("%#v", v.Interface())
}

// memory: where lists are, and whose they are.
type memory map[uintptr]string

// add all lists of a value; tells which of them share memory, if there are any.
func (m memory) add(name string, v reflect.Value) string {
	var shared string
	switch v.Kind() {
	case reflect.Struct:
		for i := range v.NumField() {
			shared += m.add(name+"."+v.Type().Field(i).Name, v.Field(i))
		}
	case reflect.Slice:
		for i := range v.Cap() {
			at := v.Pointer() + uintptr(i)*v.Type().Elem().Size()
			if m[at] != "" {
				return name + " and " + m[at] + "; "
			}
			m[at] = name
		}
		for i := range v.Len() {
			// What an element begins with is no list of its own: its lists are elsewhere.
			shared += m.add(fmt.Sprint(name, i), v.Index(i))
		}
	}
	return shared
}

// answers of all kinds, of one relay and the next note of site 0.
func answers(t *testing.T, r api.Relay, next api.Note) []any {
	t.Helper()
	more, came, e := relay.Post(r, next)
	again, twice, f := relay.Post(r, r.Log[0])
	some, g := relay.Pull(r, 1, 2)
	all, h := relay.Pull(r, 0, api.MaxLog)
	if e != api.OK || !came || f != api.OK || twice || g != api.OK || h != api.OK {
		t.Fatal(e, came, f, twice, g, h)
	}
	return []any{more, again, some, all}
}

func TestP2NewMemory(t *testing.T) {
	r, next := roomy(logOf(0, 1, 0, 3)), roomy(note(0, 3))
	was := whole(reflect.ValueOf(r)) + whole(reflect.ValueOf(next))
	if e := relay.Check(r); e != api.OK {
		t.Fatal(e)
	}
	m := memory{}
	for i, x := range append(answers(t, r, next), answers(t, r, next)...) {
		if shared := m.add(fmt.Sprint("answer ", i), reflect.ValueOf(x)); shared != "" {
			t.Error(shared, "share memory")
		}
	}
	for _, x := range []any{r, next} {
		if shared := m.add("what was handed in", reflect.ValueOf(x)); shared != "" {
			t.Error(shared, "share memory")
		}
	}
	if is := whole(reflect.ValueOf(r)) + whole(reflect.ValueOf(next)); is != was {
		t.Errorf("what was handed in is not as it was:\n%s\n%s", was, is)
	}
}

// Lists without elements may be nil or not.
func TestP2EmptyLists(t *testing.T) {
	n := note(0, 1)
	n.Deeds[0].Mark.Path, n.Deeds[1].Run.Mark.Path = []api.Step{}, []api.Step{}
	posted(t, api.Relay{Log: []api.Note{}}, n, true)
	if l, e := relay.Pull(api.Relay{Log: []api.Note{}}, 0, 5); e != api.OK || len(l) != 0 {
		t.Errorf("%+v, %d", l, e)
	}
}

func TestP3SameEachTime(t *testing.T) {
	first := answers(t, logOf(0, 1, 0, 3), note(0, 3))
	posted(t, logOf(4, 4, 4), note(4, 4), true)
	for range 3 {
		if again := answers(t, roomy(logOf(0, 1, 0, 3)), note(0, 3)); !same(again, first) {
			t.Fatalf("%+v, then %+v", first, again)
		}
	}
}

func TestP4Many(t *testing.T) {
	const many = 1 << 20
	r := api.Relay{Log: make([]api.Note, many)}
	if e := relay.Check(r); e != api.ErrMany {
		t.Errorf("notes: %d", e)
	}
	n := changed(note(0, 1), func(n *api.Note) { n.Deeds = make([]api.Deed, many) })
	if got, ok, e := relay.Post(api.Relay{}, n); e != api.ErrMany || ok || len(got.Log) != 0 {
		t.Errorf("deeds: %v, %d", ok, e)
	}
	if e := relay.Check(api.Relay{Log: []api.Note{n}}); e != api.ErrMany {
		t.Errorf("a note of very many deeds: %d", e)
	}
}
