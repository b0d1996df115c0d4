"""Thirstwise: pots watered a few a day, each before its days run out."""
