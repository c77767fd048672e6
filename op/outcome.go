package op

// Outcome works out an instruction with two numbers, from Add to Or, for who
// runs code and for who foretells what it does; of every other one it is 0.
func Outcome(o Op, left, right int) int {
	switch o {
	case Add:
		return left + right
	case Sub:
		return left - right
	case Mul:
		return left * right
	case Div:
		return quotient(left, right)
	case Rem:
		return rest(left, right)
	case Less:
		return Truth(left < right)
	case AtMost:
		return Truth(left <= right)
	case Equal:
		return Truth(left == right)
	case Differ:
		return Truth(left != right)
	case And:
		return left & right
	case Or:
		return left | right
	}
	return 0
}

// Truth tells a truth as a number.
func Truth(is bool) int {
	if is {
		return 1
	}
	return 0
}

func quotient(left, right int) int {
	if right == 0 {
		return 0
	}
	return left / right
}

func rest(left, right int) int {
	if right == 0 {
		return 0
	}
	return left % right
}
