"""What was known when: entries by three centres, handed on in any order."""
