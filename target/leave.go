package target

// sure gives a value that came without an error; with one, that leaves by panic.
func sure[T any](value T, e error) T {
	if e != nil {
		panic(e)
	}
	return value
}

// caught gives what a step gives, or the error that left it by panic.
func caught[T any](step func() T) (out T, e error) {
	defer func() {
		// out isn't set yet then.
		if p := recover(); p != nil {
			e = p.(error)
		}
	}()
	return step(), nil
}
