"""Hastebook: works that hang on one another, hastened at the least price for every end."""
