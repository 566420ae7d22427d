"""Full tables over fields."""
