"""Ripepicks: fruits that ripen as others go, and pickers who take the ripe one they like best."""
