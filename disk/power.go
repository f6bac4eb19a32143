package disk

// power: whether it is there, and at which step it goes.
type power struct {
	gone  chan struct{} // closed when it goes
	steps int           // how many are left, the one at which it goes too; 0 or less if it does not go
}

func on() power {
	return power{gone: make(chan struct{})}
}

// Arm has the power go at the n-th step from now on, or at none if n is 0 or less.
func (p *power) Arm(n int) {
	// Power that is gone goes at no later step: what is closed can't be closed again.
	if p.IsDown() {
		return
	}
	p.steps = n
}

// IsDown tells whether the power is gone.
func (p *power) IsDown() bool {
	select {
	case <-p.gone:
		return true
	default:
		return false
	}
}

// step counts one step, and tells whether there is power for it.
func (p *power) step() bool {
	if p.steps > 0 {
		p.steps--
		if p.steps == 0 {
			close(p.gone)
		}
	}
	return !p.IsDown()
}
