package item

// Writes are the Puts and Dels of one transaction. The zero Writes are none.
type Writes struct {
	touched [keys]bool
	// left is how the touched keys stand after the last write to each.
	left Table
	// put is kept beside left, as a key that was put stays taken also when it is deleted again.
	put [keys]bool
}

// Put adds the write of an item. What is no key is left alone.
func (w *Writes) Put(key, value int) {
	if !isKey(key) {
		return
	}
	w.touched[key] = true
	w.put[key] = true
	w.left.slots[key] = slot{there: true, value: value}
}

// Del adds the write that leaves no item under key. What is no key is left alone.
func (w *Writes) Del(key int) {
	if !isKey(key) {
		return
	}
	w.touched[key] = true
	w.left.slots[key] = slot{}
}

// HasPut tells if a Put of key was ever among the writes.
func (w *Writes) HasPut(key int) bool {
	return isKey(key) && w.put[key]
}

// Over is the table t with the writes done to it.
func (w *Writes) Over(t Table) Table {
	for k, touched := range w.touched {
		if touched {
			t.slots[k] = w.left.slots[k]
		}
	}
	return t
}
