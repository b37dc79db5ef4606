package b64

// signOf: the sign that stands for the last six of those bits.
func signOf(bits uint32) rune {
	value := rune(bits & (1<<signBits - 1))
	switch {
	case value < 26:
		return 'A' + value
	case value < 52:
		return 'a' + value - 26
	case value < 62:
		return '0' + value - 52
	case value == 62:
		return '-'
	}
	return '_'
}

// valueOf: what the sign stands for; false: it is none of the 64. What is no right UTF-8 comes as a rune that is none of them either.
func valueOf(sign rune) (uint32, bool) {
	switch {
	case 'A' <= sign && sign <= 'Z':
		return uint32(sign - 'A'), true
	case 'a' <= sign && sign <= 'z':
		return uint32(sign-'a') + 26, true
	case '0' <= sign && sign <= '9':
		return uint32(sign-'0') + 52, true
	case sign == '-':
		return 62, true
	case sign == '_':
		return 63, true
	}
	return 0, false
}
