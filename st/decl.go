package st

import "rung/api"

func (r *reader) program() api.Prog {
	var p api.Prog
	for r.accept("TYPE") {
		for !r.accept("END_TYPE") {
			p.Structs = append(p.Structs, r.structType())
		}
	}
	r.expect("PROGRAM")
	p.Name = r.name().Text
	for r.accept("VAR") {
		retain := r.accept("RETAIN")
		for !r.accept("END_VAR") {
			p.Vars = append(p.Vars, r.declaration(retain))
		}
	}
	p.Body = r.stmts(top)
	r.expect("END_PROGRAM")
	r.end()
	return p
}

func (r *reader) structType() api.Struct {
	name := r.name()
	s := api.Struct{Name: name.Text, At: name.At}
	r.expect(":")
	r.expect("STRUCT")
	for !r.accept("END_STRUCT") {
		s.Fields = append(s.Fields, r.field())
	}
	r.expect(";")
	return s
}

func (r *reader) field() api.Var {
	name := r.name()
	r.expect(":")
	t := api.Type{Kind: r.kind()}
	value := r.firstValue()
	r.expect(";")
	return api.Var{Name: name.Text, T: t, Init: value, At: name.At}
}

func (r *reader) declaration(retain bool) api.Var {
	name := r.name()
	address := ""
	if r.accept("AT") {
		address = r.takeOf(api.TokAddr).Text
	}
	r.expect(":")
	t := r.varType()
	value := r.firstValue()
	r.expect(";")
	return api.Var{Name: name.Text, T: t, Retain: retain, Addr: address, Init: value, At: name.At}
}

// firstValue reads a variable's, or a field's, if it has one.
func (r *reader) firstValue() []api.Expr {
	if !r.accept(":=") {
		return nil
	}
	return []api.Expr{r.lit()}
}

func (r *reader) varType() api.Type {
	switch {
	case r.accept("ARRAY"):
		return r.array()
	case r.now().Tok == api.TokName:
		return api.Type{Name: r.take().Text}
	}
	return api.Type{Kind: r.kind()}
}

func (r *reader) array() api.Type {
	r.expect("[")
	low := r.bound()
	r.expect("..")
	high := r.bound()
	r.expect("]")
	r.expect("OF")
	return api.Type{Kind: api.KArray, Lo: low, Hi: high, Elem: r.kind()}
}

// bound reads an untyped number; a typed one is no bound.
func (r *reader) bound() int {
	below := r.accept("-")
	if r.now().Kind != 0 {
		r.refuse(api.ErrParse)
	}
	n := int(r.takeOf(api.TokInt).N)
	if below {
		return -n
	}
	return n
}

func (r *reader) kind() int {
	k := kindNamed(r.now().Text)
	if k == 0 {
		r.refuse(api.ErrParse)
	}
	r.take()
	return k
}

// kindNamed tells the kind of that name; 0: none.
func kindNamed(word string) int {
	switch word {
	case "BOOL":
		return api.KBool
	case "SINT":
		return api.KSint
	case "INT":
		return api.KInt
	case "DINT":
		return api.KDint
	case "USINT":
		return api.KUsint
	case "UINT":
		return api.KUint
	case "UDINT":
		return api.KUdint
	case "BYTE":
		return api.KByte
	case "WORD":
		return api.KWord
	case "DWORD":
		return api.KDword
	case "TIME":
		return api.KTime
	}
	return 0
}
