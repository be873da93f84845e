package terms

// Sides of an infix operator: x permits less than its priority, y as much.
const (
	xfx = iota
	xfy
	yfx
)

// Infix returns the priority of a name as an infix operator, and the greatest priorities of its sides.
func Infix(name string) (p, left, right int) {
	p, sides := infixRow(name)
	if p == 0 {
		return 0, 0, 0
	}
	left, right = p-1, p-1
	switch sides {
	case xfy:
		right = p
	case yfx:
		left = p
	}
	return p, left, right
}

// infixRow returns the row of a name in the table of operators, and its column.
func infixRow(name string) (p, sides int) {
	switch name {
	case ":-", "-->":
		return 1200, xfx
	case "--->":
		return 1179, xfx
	case "==", "where":
		return 1175, xfx
	case "else":
		return 1170, xfy
	case "then":
		return 1150, xfx
	case ";":
		return 1100, xfy
	case "->":
		return 1050, xfy
	case "&":
		return 1025, xfy
	case ",":
		return 1000, xfy
	case "<=":
		return 920, xfy
	case "is":
		return 701, xfx
	case "=", "\\=", "<", ">", "=<", ">=":
		return 700, xfx
	case "::":
		return 680, xfx
	case ":=":
		return 650, xfx
	case "++":
		return 500, xfy
	case "+", "-":
		return 500, yfx
	case "*", "/", "//", "mod", ">>":
		return 400, yfx
	case "^":
		return 99, xfy
	}
	return 0, 0
}

// Prefix returns the priority of a name as a prefix operator, and the greatest priority of its last term; two: it has another term before that.
func Prefix(name string) (p, right int, two bool) {
	switch name {
	case ":-":
		return 1200, 1199, false
	case "module", "end_module", "import_module", "type", "inst", "mode", "typeclass", "instance", "promise":
		return 1199, 1198, false
	case "if":
		return 1160, 1159, false
	case "some":
		return 950, 950, true
	case "\\+", "not":
		return 900, 900, false
	case "pred", "func":
		return 800, 799, false
	case "-", "+":
		return 500, 499, false
	}
	return 0, 0, false
}
