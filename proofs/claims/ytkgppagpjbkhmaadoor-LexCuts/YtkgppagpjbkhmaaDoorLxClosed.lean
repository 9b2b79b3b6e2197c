/- What Lex answers at the document's texts. -/
import Derived.Test.YtkgppagpjbkhmaaDoorLxLex
namespace Go.Proofs.YtkgppagpjbkhmaaDoor
open Go.RowKit Go.Shelf

set_option maxRecDepth 100000
theorem lex_1 : lexA ⟨#[97, 32, 36]⟩ = .error ⟨20, 1, 3⟩ := by kernel_rfl
theorem lex_2 : lexA ⟨#[108, 101, 116, 32, 206, 177, 49, 32, 61, 32, 48, 120, 49, 70, 59]⟩ = .ok [⟨3, ⟨#[108, 101, 116]⟩, 0, 1, 1⟩, ⟨1, ⟨#[206, 177, 49]⟩, 0, 1, 5⟩, ⟨4, ⟨#[61]⟩, 0, 1, 8⟩, ⟨2, ⟨#[48, 120, 49, 70]⟩, 31, 1, 10⟩, ⟨4, ⟨#[59]⟩, 0, 1, 14⟩, ⟨5, ⟨#[]⟩, 0, 1, 15⟩] := by kernel_rfl
end Go.Proofs.YtkgppagpjbkhmaaDoor
