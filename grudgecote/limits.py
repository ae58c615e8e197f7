"""How many grudges are still counted one by one."""

MOST_GRUDGES = 10
FEW_GRUDGES = 6
