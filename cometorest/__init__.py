"""Come to rest: hands that lead a world to a wished state."""
