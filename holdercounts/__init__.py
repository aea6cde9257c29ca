"""A machine whose objects go when nothing holds them."""
