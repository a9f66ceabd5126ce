"""Mailrings: mail rules of many mailboxes, decided for all messages."""
