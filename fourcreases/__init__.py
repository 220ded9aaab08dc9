"""Fourcreases: sheets of stiff plates, and every way in which they fold."""
