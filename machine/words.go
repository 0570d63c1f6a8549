package machine

func (w *Words) setA(k uint32) { w.A = k }
func (w *Words) setX(k uint32) { w.X = k }

func (w *Words) recallA(k uint32) { w.A = w.M[k] }
func (w *Words) recallX(k uint32) { w.X = w.M[k] }
func (w *Words) keepA(k uint32)   { w.M[k] = w.A }
func (w *Words) keepX(k uint32)   { w.M[k] = w.X }

func (w *Words) copyToA(uint32) { w.A = w.X }
func (w *Words) copyToX(uint32) { w.X = w.A }

func (w *Words) add(by uint32)      { w.A += by }
func (w *Words) subtract(by uint32) { w.A -= by }
func (w *Words) multiply(by uint32) { w.A *= by }
func (w *Words) negate(uint32)      { w.A = -w.A }

func (w *Words) or(by uint32)  { w.A |= by }
func (w *Words) and(by uint32) { w.A &= by }
func (w *Words) xor(by uint32) { w.A ^= by }

// A shift by more than 31 leaves nothing of a word: the language's own shifts say so too, however far they go.
func (w *Words) shiftLeft(by uint32)  { w.A <<= by }
func (w *Words) shiftRight(by uint32) { w.A >>= by }

func (w *Words) equal(by uint32) bool   { return w.A == by }
func (w *Words) above(by uint32) bool   { return w.A > by }
func (w *Words) atLeast(by uint32) bool { return w.A >= by }
func (w *Words) common(by uint32) bool  { return w.A&by != 0 }
