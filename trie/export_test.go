package trie

// Walked tells how many nodes are met in going through all of them, and their labels.
func (t *Trie) Walked() (int, []string) {
	return walked(t.root)
}

func walked(n *node) (int, []string) {
	count, labels := 1, []string{n.label}
	for _, below := range n.below {
		c, l := walked(below)
		count, labels = count+c, append(labels, l...)
	}
	return count, labels
}
