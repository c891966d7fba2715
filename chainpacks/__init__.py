"""Chainpacks: lots, rooms and packings of sizes that divide one another."""
