/- What a call of each function is within a region; own lemmas of the verifier, no statement is proved here. -/
import Derived.Test.YtcmhaomnabdopaaDoorB3
namespace Go.Proofs.YtcmhaomnabdopaaDoor
open Go.RowKit
theorem cf13 (vs : Array Value) (w : World) : (callFunc 13 vs).run Tryd.prog w = .ok (.enter 13 vs) w := by go_simp
theorem cf14 (vs : Array Value) (w : World) : (callFunc 14 vs).run Tryd.prog w = .ok (.enter 14 vs) w := by go_simp
theorem cf15 (vs : Array Value) (w : World) : (callFunc 15 vs).run Tryd.prog w = .ok (.enter 15 vs) w := by go_simp
theorem cf16 (vs : Array Value) (w : World) : (callFunc 16 vs).run Tryd.prog w = .ok (.enter 16 vs) w := by go_simp
theorem cf17 (vs : Array Value) (w : World) : (callFunc 17 vs).run Tryd.prog w = .ok (.enter 17 vs) w := by go_simp
theorem cf18 (vs : Array Value) (w : World) : (callFunc 18 vs).run Tryd.prog w = .ok (.enter 18 vs) w := by go_simp
theorem cf22 (vs : Array Value) (w : World) : (callFunc 22 vs).run Tryd.prog w = .ok (.enter 22 vs) w := by go_simp
theorem cf23 (vs : Array Value) (w : World) : (callFunc 23 vs).run Tryd.prog w = .ok (.enter 23 vs) w := by go_simp
theorem cf24 (vs : Array Value) (w : World) : (callFunc 24 vs).run Tryd.prog w = .ok (.enter 24 vs) w := by go_simp
end Go.Proofs.YtcmhaomnabdopaaDoor
