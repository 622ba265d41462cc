"""Trees home without a common line, and letters that come home behind broken ones."""
