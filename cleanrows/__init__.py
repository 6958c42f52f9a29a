"""Files kept in rows that are only ever written one behind the other."""
