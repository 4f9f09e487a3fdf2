package ends

// account is what a stream, or the connection, may send and receive, and what is owed of it. Of a stream both windows stand without the initial one, which may change at any time.
type account struct {
	send    int // credit that came, less what was sent
	receive int // credit that was made, less what came
	owed    int
}

// grant turns all that is owed into credit, and answers how much that is.
func (a *account) grant() int {
	n := a.owed
	a.receive += n
	a.owed = 0
	return n
}

// isDue tells whether credit is due if so much is owed and the receive window is this.
func isDue(owed, window, batch int) bool {
	return owed >= 1 && (owed >= batch || window <= 0)
}

// initial is the initial windows of streams, this end's and the other's.
type initial struct {
	wanted int
	told   bool // Settings were made
	made   int  // the number in those that were made last
	waits  bool // their Ack did not come yet
	own    int
	other  int
}
