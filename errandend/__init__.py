"""Errandend: errands over trees that send one another, told to end or left unsettled."""
