"""Words whose sides change places at a letter, and what is true of them for all words."""
