"""Imbalances of an electricity market: who had too much, who too little, and who pays."""
