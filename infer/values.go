package infer

import "reverie/api"

// looker looks for -> in types. Of each type that has a name the fields are looked through but once, as types may stand in each other's fields.
type looker struct {
	datas map[string]api.Data
	found bool
}

// isOfValues tells whether -> isn't in a type, nor in the fields of types in it.
func isOfValues(t api.Type, datas []api.Data) bool {
	l := &looker{datas: map[string]api.Data{}}
	for _, d := range datas {
		l.datas[d.Name] = d
	}
	l.typ(t)
	return !l.found
}

func (l *looker) typ(t api.Type) {
	if t.Var < 0 {
		l.name(t.Name)
	}
	for _, a := range t.Args {
		l.typ(a)
	}
}

func (l *looker) name(name string) {
	l.found = l.found || name == "->"
	d, ok := l.datas[name]
	if !ok {
		return
	}
	delete(l.datas, name)
	for _, k := range d.Cons {
		l.fields(k.Fields)
	}
}

func (l *looker) fields(list []api.TypeE) {
	for _, f := range list {
		l.name(f.Name)
		l.fields(f.Args)
	}
}
