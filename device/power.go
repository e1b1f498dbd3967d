package device

// power is on until it ends. A cut does not end it: the first operation does that finds none left.
type power struct {
	ended bool
	cut   bool
	left  int // operations ahead of the end, if it is cut
}

// end sets the cut behind n operations more; below 0 there is none. Power that has ended stays so.
func (w *power) end(n int) {
	w.cut, w.left = n >= 0, n
}

// operate counts an operation, and tells whether there is power for it.
func (w *power) operate() bool {
	if w.cut && w.left == 0 {
		w.ended = true
	}
	if w.ended {
		return false
	}
	if w.cut {
		w.left--
	}
	return true
}

// comeBack is power without a cut.
func (w *power) comeBack() {
	*w = power{}
}
