"""Records whose fields come and go, and a small language of functions over them."""
