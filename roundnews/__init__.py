"""Roundnews: news whose numbers come round."""
