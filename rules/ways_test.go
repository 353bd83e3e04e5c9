package rules

import (
	"go/ast"
	"go/parser"
	"go/token"
	"go/types"
	"path/filepath"
	"slices"
	"strings"
	"testing"
)

// ways is DOC.md's section 'Ways', layer by layer: what is declared by which name must be built in which way.
var ways = []struct {
	layer, name string
	built       func(*types.Info, ast.Decl) bool
	way         string
}{
	{"bits", "Of", bitsByRange, "an octet's bits by a range over an integer, shifted"},
	{"bits", "Octets", bitsByRange, "an octet's bits by a range over an integer, shifted"},
	{"bits", "Flip", variadic, "places through a variadic function"},
	{"bits", "Pack", variadic, "fields through a variadic function"},
	{"fcs", "Step", bitsByRange, "a byte's bits by a range over an integer"},
	{"hdlc", "Frame", byIota, "kinds numbered by iota"},
	{"hdlc", "Abort", byIota, "kinds numbered by iota"},
	{"hdlc", "Bad", byIota, "kinds numbered by iota"},
	{"addr", "None", byIota, "kinds numbered by iota"},
	{"addr", "Fixed", byIota, "kinds numbered by iota"},
	{"addr", "Automatic", byIota, "kinds numbered by iota"},
	{"addr", "Group", byIota, "kinds numbered by iota"},
	{"ctrl", "I", byIota, "kinds numbered by iota"},
	{"ctrl", "RR", byIota, "kinds numbered by iota"},
	{"ctrl", "RNR", byIota, "kinds numbered by iota"},
	{"ctrl", "REJ", byIota, "kinds numbered by iota"},
	{"ctrl", "SABME", byIota, "kinds numbered by iota"},
	{"ctrl", "DM", byIota, "kinds numbered by iota"},
	{"ctrl", "UI", byIota, "kinds numbered by iota"},
	{"ctrl", "DISC", byIota, "kinds numbered by iota"},
	{"ctrl", "UA", byIota, "kinds numbered by iota"},
	{"ctrl", "FRMR", byIota, "kinds numbered by iota"},
	{"ctrl", "Kinds", byIota, "kinds numbered by iota"},
	{"ctrl", "firstOctets", constantTable, "first octets in constant tables"},
	{"ctrl", "firstOctet", reads("firstOctets"), "first octets in constant tables"},
	{"ctrl", "Put", calls("firstOctet"), "first octets in constant tables"},
	{"ctrl", "begin", calls("firstOctet"), "first octets in constant tables"},
	{"ctrl", "Get", calls("begin"), "first octets in constant tables"},
	{"ctrl", "names", constantTable, "names in constant tables"},
	{"ctrl", "Kind.Name", reads("names"), "names in constant tables"},
	{"frame", "commandsAlone", constantArray, "kinds that are commands alone in an array"},
	{"frame", "May", reads("commandsAlone"), "kinds that are commands alone in an array"},
	{"frame", "responsesAlone", constantArray, "kinds that are responses alone in an array"},
	{"frame", "May", reads("responsesAlone"), "kinds that are responses alone in an array"},
	{"frame", "Put", calls("May"), "kinds that are commands, or responses, alone in arrays"},
	{"frame", "Get", calls("May"), "kinds that are commands, or responses, alone in arrays"},
	{"teimsg", "Request", byIota, "types numbered by iota"},
	{"teimsg", "Assigned", byIota, "types numbered by iota"},
	{"teimsg", "Denied", byIota, "types numbered by iota"},
	{"teimsg", "CheckRequest", byIota, "types numbered by iota"},
	{"teimsg", "CheckResponse", byIota, "types numbered by iota"},
	{"teimsg", "Remove", byIota, "types numbered by iota"},
	{"teimsg", "Verify", byIota, "types numbered by iota"},
	{"teimsg", "Of", compares("lapwing/addr.Link"), "a frame's link compared as a struct"},
	{"seq", "modulo", generic, "a number modulo 128 told by a generic function"},
	{"seq", "Norm", calls("modulo"), "a number modulo 128 told by a generic function"},
	{"seq", "Add", calls("modulo"), "a number modulo 128 told by a generic function"},
	{"seq", "Sub", calls("modulo"), "a number modulo 128 told by a generic function"},
	{"seq", "Valid", calls("Sub"), "a number modulo 128 told by a generic function"},
	{"seq", "Room", calls("Sub"), "a number modulo 128 told by a generic function"},
	{"clock", "Clock.Start", storesByKey("lapwing/clock.Key"), "timers in a map whose keys are structs"},
	{"clock", "Clock.Runs", looksUpByKey("lapwing/clock.Key"), "timers in a map whose keys are structs"},
	{"clock", "Clock.Next", rangesOverKeys("lapwing/clock.Key"), "the map of timers ranged over"},
	{"clock", "Clock.Due", rangesOverKeys("lapwing/clock.Key"), "the map of timers ranged over"},
	{"clock", "Clock.Due", deletesByKey("lapwing/clock.Key"), "timers deleted out of the map"},
	{"clock", "Clock.Drop", rangesOverKeys("lapwing/clock.Key"), "the map of timers ranged over"},
	{"clock", "Clock.Drop", deletesByKey("lapwing/clock.Key"), "timers deleted out of the map"},
	{"clock", "Clock.Stop", deletesByKey("lapwing/clock.Key"), "timers deleted out of the map"},
	{"queue", "Queue.List", copies, "what is told is copied"},
	{"queue", "Queue.Done", cutsOff, "what is left behind what is done cut off by a three-index expression"},
	{"draw", "New", variadic, "the first numbers through a variadic function"},
	{"draw", "New", copiesAny, "the first numbers copied"},
	{"pool", "Pool.Assign", teisByRange, "TEIs by a range over an integer"},
	{"pool", "Pool.List", teisByRange, "TEIs by a range over an integer"},
	{"flow", "Next", byIota, "what a number may be numbered by iota"},
	{"flow", "Wrong", byIota, "what a number may be numbered by iota"},
	{"flow", "Again", byIota, "what a number may be numbered by iota"},
	{"flow", "Busy", byIota, "what a number may be numbered by iota"},
	{"flow", "Flow.View", promotes("lapwing/flow.Flow", "vs", "va", "vr"), "the numbers embedded in the flow"},
	{"flow", "Flow.Take", promotes("lapwing/flow.Flow", "vs", "va"), "the numbers embedded in the flow"},
	{"flow", "Flow.Ack", promotes("lapwing/flow.Flow", "vs", "va"), "the numbers embedded in the flow"},
	{"flow", "Flow.Back", promotes("lapwing/flow.Flow", "vs", "va"), "the numbers embedded in the flow"},
	{"flow", "Flow.Come", promotes("lapwing/flow.Flow", "vr"), "the numbers embedded in the flow"},
	{"flow", "Flow.Clear", promotes("lapwing/flow.Flow", "vs", "va"), "the numbers embedded in the flow"},
	{"entity", "Unassigned", byIota, "states numbered by iota"},
	{"entity", "AwaitTEI", byIota, "states numbered by iota"},
	{"entity", "AwaitLink", byIota, "states numbered by iota"},
	{"entity", "Assigned", byIota, "states numbered by iota"},
	{"entity", "Connecting", byIota, "states numbered by iota"},
	{"entity", "Releasing", byIota, "states numbered by iota"},
	{"entity", "Open", byIota, "states numbered by iota"},
	{"entity", "Recovery", byIota, "states numbered by iota"},
	{"entity", "Entity.establish", fallsThrough("Open", "Assigned"), "a call from a state with a link falling through to one from a state without"},
	{"entity", "Entity.establish", fallsThrough("Recovery", "Assigned"), "a call from a state with a link falling through to one from a state without"},
	{"entity", "Entity.start", storesByKey("int"), "timers in a map"},
	{"entity", "Entity.runs", looksUpByKey("int"), "timers in a map"},
	{"entity", "Entity.stop", deletesByKey("int"), "timers in a map"},
	{"entity", "Entity.Timeout", deletesByKey("int"), "timers in a map"},
	{"source", "Send", byIota, "effects numbered by iota"},
	{"source", "Given", byIota, "effects numbered by iota"},
	{"source", "Freed", byIota, "effects numbered by iota"},
	{"source", "Start", byIota, "effects numbered by iota"},
	{"source", "Stop", byIota, "effects numbered by iota"},
	{"source", "Source.await", storesByKey("int"), "checks in a map"},
	{"source", "Source.answer", storesByKey("int"), "checks in a map"},
	{"source", "Source.Check", looksUpByKey("int"), "checks in a map"},
	{"source", "Source.Timeout", looksUpByKey("int"), "checks in a map"},
	{"source", "Source.Timeout", deletesByKey("int"), "checks in a map"},
	{"source", "Source.remove", deletesByKey("int"), "checks in a map"},
	{"user", "Send", byIota, "effects numbered by iota"},
	{"user", "Got", byIota, "effects numbered by iota"},
	{"user", "Lost", byIota, "effects numbered by iota"},
	{"user", "Failed", byIota, "effects numbered by iota"},
	{"user", "Start", byIota, "effects numbered by iota"},
	{"user", "Stop", byIota, "effects numbered by iota"},
	{"user", "New", keepsMethod("next", "lapwing/draw.Source", "Next"), "the source's Next held as a method value, in a function field"},
	{"user", "User.ask", callsKept("next"), "the source's Next held as a method value, in a function field"},
	{"user", "User.Message", callsKept("next"), "the source's Next held as a method value, in a function field"},
	{"mux", "Mux.Join", storesByKey("lapwing/addr.Link"), "links in a map whose keys are structs"},
	{"mux", "Mux.has", looksUpByKey("lapwing/addr.Link"), "links in a map whose keys are structs"},
	{"mux", "Mux.Route", looksUpByKey("lapwing/addr.Link"), "links in a map whose keys are structs"},
	{"mux", "Mux.everybody", rangesOverKeys("lapwing/addr.Link"), "the map of links ranged over"},
	{"mux", "Mux.Links", rangesOverKeys("lapwing/addr.Link"), "the map of links ranged over"},
	{"mux", "Mux.Drop", rangesOverKeys("lapwing/addr.Link"), "the map of links ranged over"},
	{"mux", "Mux.Drop", deletesByKey("lapwing/addr.Link"), "links deleted out of the map"},
	{"mux", "Mux.Leave", deletesByKey("lapwing/addr.Link"), "links deleted out of the map"},
	{"mux", "Mux.Links", ordersByClosure, "links put in order by a closure"},
}

// DOC.md, Ways.
func TestWays(t *testing.T) {
	m := module{fset: token.NewFileSet(), packages: map[string]*types.Package{}, declared: map[string]ast.Decl{}}
	m.info.Types = map[ast.Expr]types.TypeAndValue{}
	m.info.Selections = map[*ast.SelectorExpr]*types.Selection{}
	for _, w := range ways {
		if _, err := m.Import("lapwing/" + w.layer); err != nil {
			t.Fatal(err)
		}
		d := m.declared["lapwing/"+w.layer+"."+w.name]
		if d == nil || !w.built(&m.info, d) {
			t.Errorf("%s.%s isn't built as the document asks: %s", w.layer, w.name, w.way)
		}
	}
}

// module reads the module's packages, with their types.
type module struct {
	fset     *token.FileSet
	info     types.Info
	packages map[string]*types.Package
	declared map[string]ast.Decl // functions, methods, and groups of constants or variables, by package and name
}

// Import reads a package of the module. One of the library is left empty: no way hangs on what is in there.
func (m *module) Import(path string) (*types.Package, error) {
	if p := m.packages[path]; p != nil {
		return p, nil
	}
	folder, own := strings.CutPrefix(path, "lapwing/")
	if !own {
		p := types.NewPackage(path, filepath.Base(path))
		p.MarkComplete()
		return p, nil
	}
	files, err := m.parse(filepath.Join("..", folder))
	if err != nil {
		return nil, err
	}
	for _, file := range files {
		for _, d := range file.Decls {
			for _, name := range names(d) {
				m.declared[path+"."+name] = d
			}
		}
	}
	ignore := func(error) {} // what the library's packages lack here
	config := types.Config{Importer: m, Error: ignore}
	m.packages[path], _ = config.Check(path, m.fset, files, &m.info)
	return m.packages[path], nil
}

func (m *module) parse(folder string) ([]*ast.File, error) {
	names, err := filepath.Glob(filepath.Join(folder, "*.go"))
	if err != nil {
		return nil, err
	}
	var files []*ast.File
	for _, name := range names {
		if strings.HasSuffix(name, "_test.go") {
			continue
		}
		file, err := parser.ParseFile(m.fset, name, nil, 0)
		if err != nil {
			return nil, err
		}
		files = append(files, file)
	}
	return files, nil
}

// names: what is declared there, but for types. A method is named with its type ahead.
func names(d ast.Decl) []string {
	switch x := d.(type) {
	case *ast.FuncDecl:
		if x.Recv == nil {
			return []string{x.Name.Name}
		}
		owner := strings.TrimPrefix(types.ExprString(x.Recv.List[0].Type), "*")
		return []string{owner + "." + x.Name.Name}
	case *ast.GenDecl:
		if x.Tok == token.CONST || x.Tok == token.VAR {
			return valueNames(x)
		}
	}
	return nil
}

func valueNames(group *ast.GenDecl) []string {
	var out []string
	for _, s := range group.Specs {
		for _, n := range s.(*ast.ValueSpec).Names {
			out = append(out, n.Name)
		}
	}
	return out
}

// variadic: does it take any number of arguments?
func variadic(_ *types.Info, d ast.Decl) bool {
	f, ok := d.(*ast.FuncDecl)
	if !ok || len(f.Type.Params.List) == 0 {
		return false
	}
	params := f.Type.Params.List
	_, ok = params[len(params)-1].Type.(*ast.Ellipsis)
	return ok
}

// generic: does it take, and answer, what is of a type parameter of its own?
func generic(_ *types.Info, d ast.Decl) bool {
	f, ok := d.(*ast.FuncDecl)
	if !ok || f.Type.TypeParams == nil || f.Type.Results == nil {
		return false
	}
	for _, p := range f.Type.TypeParams.List {
		for _, name := range p.Names {
			if anyOfType(f.Type.Params, name.Name) && anyOfType(f.Type.Results, name.Name) {
				return true
			}
		}
	}
	return false
}

func anyOfType(fields *ast.FieldList, name string) bool {
	return slices.ContainsFunc(fields.List, func(f *ast.Field) bool { return types.ExprString(f.Type) == name })
}

// byIota: is each constant of the group told by iota, on its own line or by repeating the line above?
func byIota(_ *types.Info, d ast.Decl) bool {
	group, ok := d.(*ast.GenDecl)
	if !ok || group.Tok != token.CONST {
		return false
	}
	told := false
	for _, s := range group.Specs {
		if values := s.(*ast.ValueSpec).Values; len(values) > 0 {
			told = slices.ContainsFunc(values, func(v ast.Expr) bool { return has(v, isIota) })
		}
		if !told {
			return false
		}
	}
	return true
}

func isIota(n ast.Node) bool {
	name, ok := n.(*ast.Ident)
	return ok && name.Name == "iota"
}

// constantTable: is each variable of the group a table, written out in constants?
func constantTable(info *types.Info, d ast.Decl) bool {
	group, ok := d.(*ast.GenDecl)
	if !ok || group.Tok != token.VAR {
		return false
	}
	for _, s := range group.Specs {
		values := s.(*ast.ValueSpec).Values
		if len(values) == 0 || slices.ContainsFunc(values, func(v ast.Expr) bool { return !ofConstants(info, v) }) {
			return false
		}
	}
	return true
}

// constantArray: is each variable of the group such a table, and an array?
func constantArray(info *types.Info, d ast.Decl) bool {
	return constantTable(info, d) && !has(d, func(n ast.Node) bool {
		table, ok := n.(*ast.CompositeLit)
		return ok && !isArray(info.Types[table].Type)
	})
}

func isArray(t types.Type) bool {
	_, ok := t.Underlying().(*types.Array)
	return ok
}

func ofConstants(info *types.Info, v ast.Expr) bool {
	table, ok := v.(*ast.CompositeLit)
	if !ok || len(table.Elts) == 0 {
		return false
	}
	for _, e := range table.Elts {
		if pair, ok := e.(*ast.KeyValueExpr); ok {
			e = pair.Value
		}
		if info.Types[e].Value == nil {
			return false
		}
	}
	return true
}

// reads: does it take an element out of the table of that name?
func reads(table string) func(*types.Info, ast.Decl) bool {
	return func(_ *types.Info, d ast.Decl) bool {
		return has(d, func(n ast.Node) bool {
			x, ok := n.(*ast.IndexExpr)
			return ok && types.ExprString(x.X) == table
		})
	}
}

// calls: does it call the function of that name?
func calls(function string) func(*types.Info, ast.Decl) bool {
	return func(_ *types.Info, d ast.Decl) bool {
		return has(d, func(n ast.Node) bool {
			x, ok := n.(*ast.CallExpr)
			return ok && types.ExprString(x.Fun) == function
		})
	}
}

// storesByKey: does it store into a kept map whose keys are of the type of that name, which is a struct or int?
func storesByKey(name string) func(*types.Info, ast.Decl) bool {
	return func(info *types.Info, d ast.Decl) bool {
		return has(d, func(n ast.Node) bool {
			x, ok := n.(*ast.AssignStmt)
			return ok && slices.ContainsFunc(x.Lhs, func(e ast.Expr) bool { return isElement(info, e, name) })
		})
	}
}

// looksUpByKey: does it take an element out of such a map?
func looksUpByKey(name string) func(*types.Info, ast.Decl) bool {
	return func(info *types.Info, d ast.Decl) bool {
		return has(d, func(n ast.Node) bool {
			x, ok := n.(*ast.AssignStmt)
			return ok && slices.ContainsFunc(x.Rhs, func(e ast.Expr) bool { return isElement(info, e, name) })
		})
	}
}

// rangesOverKeys: does it range over such a map?
func rangesOverKeys(name string) func(*types.Info, ast.Decl) bool {
	return func(info *types.Info, d ast.Decl) bool {
		return has(d, func(n ast.Node) bool {
			x, ok := n.(*ast.RangeStmt)
			return ok && isKeptMap(info, x.X, name)
		})
	}
}

// deletesByKey: does it delete out of such a map?
func deletesByKey(name string) func(*types.Info, ast.Decl) bool {
	return func(info *types.Info, d ast.Decl) bool {
		return has(d, func(n ast.Node) bool {
			x, ok := n.(*ast.CallExpr)
			return ok && types.ExprString(x.Fun) == "delete" && isKeptMap(info, x.Args[0], name)
		})
	}
}

func isElement(info *types.Info, e ast.Expr, name string) bool {
	x, ok := e.(*ast.IndexExpr)
	return ok && isKeptMap(info, x.X, name)
}

// isKeptMap: is it a field, and a map whose keys are of the type of that name, which is a struct or int?
func isKeptMap(info *types.Info, e ast.Expr, name string) bool {
	_, field := e.(*ast.SelectorExpr)
	t := info.Types[e].Type
	if !field || t == nil {
		return false
	}
	m, ok := t.Underlying().(*types.Map)
	return ok && m.Key().String() == name && (name == "int" || isStruct(m.Key()))
}

// copies: does it copy a kept list?
func copies(info *types.Info, d ast.Decl) bool {
	return has(d, func(n ast.Node) bool {
		list := copied(n)
		return list != nil && isKeptList(info, list)
	})
}

// copiesAny: does it copy what it takes any number of?
func copiesAny(info *types.Info, d ast.Decl) bool {
	if !variadic(info, d) {
		return false
	}
	params := d.(*ast.FuncDecl).Type.Params.List
	taken := params[len(params)-1].Names[0].Name
	return has(d, func(n ast.Node) bool {
		list := copied(n)
		return list != nil && types.ExprString(list) == taken
	})
}

// copied: the list that is copied there, if one is.
func copied(n ast.Node) ast.Expr {
	x, ok := n.(*ast.CallExpr)
	if !ok || len(x.Args) == 0 {
		return nil
	}
	if name := types.ExprString(x.Fun); name != "copy" && name != "slices.Clone" {
		return nil
	}
	return x.Args[len(x.Args)-1]
}

// cutsOff: does it keep, of a kept list, what a three-index expression leaves of it?
func cutsOff(info *types.Info, d ast.Decl) bool {
	return has(d, func(n ast.Node) bool {
		x, ok := n.(*ast.AssignStmt)
		return ok && slices.ContainsFunc(x.Lhs, func(e ast.Expr) bool { return isKeptList(info, e) }) &&
			slices.ContainsFunc(x.Rhs, func(e ast.Expr) bool { return isThreeIndex(info, e) })
	})
}

func isThreeIndex(info *types.Info, e ast.Expr) bool {
	x, ok := e.(*ast.SliceExpr)
	return ok && x.Slice3 && isKeptList(info, x.X)
}

// isKeptList: is it a field, and a list?
func isKeptList(info *types.Info, e ast.Expr) bool {
	_, field := e.(*ast.SelectorExpr)
	t := info.Types[e].Type
	if !field || t == nil {
		return false
	}
	_, list := t.Underlying().(*types.Slice)
	return list
}

// compares: does it hold two structs of the type of that name against each other, whole?
func compares(name string) func(*types.Info, ast.Decl) bool {
	return func(info *types.Info, d ast.Decl) bool {
		such := func(e ast.Expr) bool {
			t := info.Types[e].Type
			return t != nil && t.String() == name && isStruct(t)
		}
		return has(d, func(n ast.Node) bool {
			x, ok := n.(*ast.BinaryExpr)
			return ok && (x.Op == token.EQL || x.Op == token.NEQ) && such(x.X) && such(x.Y)
		})
	}
}

func isStruct(t types.Type) bool {
	_, ok := t.Underlying().(*types.Struct)
	return ok
}

// bitsByRange: has it a range over the integer 8, with a shift inside?
func bitsByRange(info *types.Info, d ast.Decl) bool {
	return has(d, func(n ast.Node) bool {
		r, ok := n.(*ast.RangeStmt)
		return ok && isInteger(info, r.X, "8") && has(r.Body, isShift)
	})
}

func isShift(n ast.Node) bool {
	switch x := n.(type) {
	case *ast.BinaryExpr:
		return x.Op == token.SHL || x.Op == token.SHR
	case *ast.AssignStmt:
		return x.Tok == token.SHL_ASSIGN || x.Tok == token.SHR_ASSIGN
	}
	return false
}

// teisByRange: has it a range over the integer 63, with elements of a kept array inside?
func teisByRange(info *types.Info, d ast.Decl) bool {
	return has(d, func(n ast.Node) bool {
		r, ok := n.(*ast.RangeStmt)
		return ok && isInteger(info, r.X, "63") && has(r.Body, func(n ast.Node) bool {
			x, ok := n.(*ast.IndexExpr)
			return ok && isKeptArray(info, x.X)
		})
	})
}

// promotes: does it take each of these fields of an object of the type of that name by its name alone, out of what is embedded there?
func promotes(owner string, fields ...string) func(*types.Info, ast.Decl) bool {
	return func(info *types.Info, d ast.Decl) bool {
		return !slices.ContainsFunc(fields, func(field string) bool {
			return !has(d, func(n ast.Node) bool {
				x, ok := n.(*ast.SelectorExpr)
				return ok && x.Sel.Name == field && isPromoted(info.Selections[x], owner)
			})
		})
	}
}

func isPromoted(s *types.Selection, owner string) bool {
	return s != nil && s.Kind() == types.FieldVal && strings.TrimPrefix(s.Recv().String(), "*") == owner && len(s.Index()) > 1
}

// keepsMethod: does it make a struct whose function field of that name holds a method of the type of the owner's name, as a value?
func keepsMethod(field, owner, method string) func(*types.Info, ast.Decl) bool {
	return func(info *types.Info, d ast.Decl) bool {
		return has(d, func(n ast.Node) bool {
			pair, ok := n.(*ast.KeyValueExpr)
			return ok && types.ExprString(pair.Key) == field && isMethodValue(info, pair.Value, owner, method)
		})
	}
}

func isMethodValue(info *types.Info, e ast.Expr, owner, method string) bool {
	x, ok := e.(*ast.SelectorExpr)
	if !ok || x.Sel.Name != method {
		return false
	}
	s := info.Selections[x]
	return s != nil && s.Kind() == types.MethodVal && strings.TrimPrefix(s.Recv().String(), "*") == owner
}

// callsKept: does it call what the function field of that name holds?
func callsKept(field string) func(*types.Info, ast.Decl) bool {
	return func(info *types.Info, d ast.Decl) bool {
		return has(d, func(n ast.Node) bool {
			call, ok := n.(*ast.CallExpr)
			if !ok {
				return false
			}
			x, ok := call.Fun.(*ast.SelectorExpr)
			return ok && x.Sel.Name == field && info.Selections[x] != nil && info.Selections[x].Kind() == types.FieldVal
		})
	}
}

// ordersByClosure: does it put a list in order by a function that is written out there?
func ordersByClosure(_ *types.Info, d ast.Decl) bool {
	return has(d, func(n ast.Node) bool {
		call, ok := n.(*ast.CallExpr)
		if !ok || types.ExprString(call.Fun) != "slices.SortFunc" || len(call.Args) != 2 {
			return false
		}
		_, ok = call.Args[1].(*ast.FuncLit)
		return ok
	})
}

// fallsThrough: does the case of the constant of one name fall through to that of the other?
func fallsThrough(from, to string) func(*types.Info, ast.Decl) bool {
	return func(_ *types.Info, d ast.Decl) bool {
		return has(d, func(n ast.Node) bool {
			x, ok := n.(*ast.SwitchStmt)
			if !ok {
				return false
			}
			cases := x.Body.List
			for i := range len(cases) - 1 {
				if isCaseOf(cases[i], from) && endsInFallthrough(cases[i]) && isCaseOf(cases[i+1], to) {
					return true
				}
			}
			return false
		})
	}
}

func isCaseOf(s ast.Stmt, name string) bool {
	return slices.ContainsFunc(s.(*ast.CaseClause).List, func(e ast.Expr) bool { return types.ExprString(e) == name })
}

func endsInFallthrough(s ast.Stmt) bool {
	body := s.(*ast.CaseClause).Body
	if len(body) == 0 {
		return false
	}
	last, ok := body[len(body)-1].(*ast.BranchStmt)
	return ok && last.Tok == token.FALLTHROUGH
}

// isInteger: is it a constant of that number?
func isInteger(info *types.Info, e ast.Expr, number string) bool {
	value := info.Types[e].Value
	return value != nil && value.ExactString() == number
}

// isKeptArray: is it a field, and an array?
func isKeptArray(info *types.Info, e ast.Expr) bool {
	_, field := e.(*ast.SelectorExpr)
	t := info.Types[e].Type
	return field && t != nil && isArray(t)
}

// has: is there such a node in what lies below?
func has(below ast.Node, such func(ast.Node) bool) bool {
	found := false
	ast.Inspect(below, func(n ast.Node) bool {
		found = found || such(n)
		return !found
	})
	return found
}
