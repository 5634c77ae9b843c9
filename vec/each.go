package vec

import "afterimage/fix"

// ends are two numbers between which another one may be, whichever is the lesser one.
type ends struct {
	a, b int64
}

// each hands what stands at the same place of two arrays to one function.
func each[A, B, C any](a [3]A, b [3]B, do func(A, B) C) [3]C {
	var done [3]C
	for i := range done {
		done[i] = do(a[i], b[i])
	}
	return done
}

func endsOf(a, b int64) ends {
	return ends{a: a, b: b}
}

func kept(x int64, between ends) int64 {
	return fix.Clamp(x, between.a, between.b)
}

// apart is how far two numbers are apart, exactly: that may be more than any int64, so it doesn't stop there.
func apart(a, b int64) uint64 {
	return uint64(max(a, b)) - uint64(min(a, b))
}
