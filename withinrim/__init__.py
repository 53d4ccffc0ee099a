"""Series that nowhere in the disc are above one, through told values."""
