import PyProof.Rows.All
import Wide.All
import OpenK.AllK
import Wide.FinOn
import KE.KStateDown
import Lean
import HandS.ForMost
import HandS.Ends
import HandS.More
import HandS.Words
import HandS.Defaults
import HandS.Style
import HandS.Star
import HandS.Conv
import HandS.Small
import HandS.TupAny
import HandS.TupMul
import HandS.Gcd
import HandS.IsInst
import HandS.Zip
import HandS.SetBool
import HandS.TupSets
import HandS.Head0
import HandS.Head1
import HandS.Head2
import HandS.HeadEnd
import HandS.HeadHook1
import HandS.HeadHook2
import HandS.Walk
import PyProof.MinMaxWalk
import PyProof.MaxThree
import HandS.Strs
import KE.GoesNew
import PyProof.ListMulRoad
import PyProof.FactsAll.tuple_2
import PyProof.ReprRoads
import HandS.HeadHook4
import HandS.Head3
import PySem.Challenge.RW_ringvoices_k18_whole_class_sums
set_option Elab.async false
set_option linter.all false
set_option maxRecDepth 100000
set_option maxHeartbeats 0
/-! What the defs reckon, as plain functions. -/
namespace K18
def rgL (lo : Int) (n : Nat) : List Int := (List.range n).map fun (i : Nat) => lo + (i : Int)
theorem rgL_succ (lo : Int) (n : Nat) : rgL lo (n + 1) = rgL lo n ++ [lo + (n : Int)] := by
  unfold rgL
  rw [List.range_succ, List.map_append]
  rfl
theorem rgL_len (lo : Int) (n : Nat) : (rgL lo n).length = n := by simp [rgL]
def gcdI (a b : Int) : Int := ((Nat.gcd a.natAbs b.natAbs : Nat) : Int)
def unitsL (e : Int) : List Int := (rgL 1 e.toNat).filter fun j => decide (gcdI j e = 1)
def primesGo (n : Int) : Nat → List Int
  | 0 => []
  | i + 1 => if (decide (n % (2 + (i : Int)) = 0) && ((primesGo n i).map fun p => !decide ((2 + (i : Int)) % p = 0)).all id) = true then primesGo n i ++ [2 + (i : Int)] else primesGo n i
def primesL (n : Int) : List Int := primesGo n (n + 1 - 2).toNat
def plStep (ps : List (List Int)) (len : Int) : List (List Int) := ps.flatMap fun p => (rgL 0 len.toNat).map fun i => p ++ [i]
def placesL (rings : List Int) : List (List Int) := rings.foldl plStep [[]]
def lcmI (a b : Int) : Int := (((Nat.lcm 1 a.natAbs).lcm b.natAbs : Nat) : Int)
def ordL (rings : List Int) : Int := rings.foldl lcmI 1
def repL (rings place : List Int) (many : Int) : List Int := (List.range rings.length).map fun k => place.getD k 0 * many % rings.getD k 0
def pairGo (rings : List Int) (e : Int) (place label : List Int) : Nat → Int
  | 0 => 0
  | k + 1 => pairGo rings e place label k + place.getD k 0 * label.getD k 0 * (e / rings.getD k 0)
def pairL (rings : List Int) (e : Int) (place label : List Int) : Int := pairGo rings e place label rings.length % e
def strN (items : List Int) (by_ : Nat) : Nat → List Int
  | 0 => List.replicate ((items.length - 1) * by_ + 1) 0
  | i + 1 => (strN items by_ i).set (i * by_) (items.getD i 0)
def strL (items : List Int) (by_ : Nat) : List Int := strN items by_ items.length
def subN (h : Int) (dv : List Int) (at_ : Nat) (rest : List Int) : Nat → List Int
  | 0 => rest
  | k + 1 => (subN h dv at_ rest k).set (at_ + k) ((subN h dv at_ rest k).getD (at_ + k) 0 - h * dv.getD k 0)
def divStep (deg : Nat) (dv rest : List Int) : List Int := subN (rest.getLastD 0) dv (rest.length - 1 - deg) rest.dropLast deg
def divGo (deg : Nat) (dv : List Int) : Nat → List Int → List Int → List Int × List Int
  | 0, rest, quo => (quo, rest)
  | n + 1, rest, quo => divGo deg dv n (divStep deg dv rest) (quo ++ [rest.getLastD 0])
def divL (items dv : List Int) : List Int × List Int :=
  let r := divGo (dv.length - 1) dv (items.length - (dv.length - 1)) items []
  (r.1.reverse, r.2)
def redL (items poly : List Int) : List Int := (divL items poly).2 ++ List.replicate (poly.length - 1 - (divL items poly).2.length) 0
def polyStep (s : List Int × Int) (p : Int) : List Int × Int := ((divL (strL s.1 p.toNat) s.1).1, s.2 / p)
def polyL (e : Int) : List Int :=
  let s := (primesL e).foldl polyStep ([-1, 1], e)
  strL s.1 s.2.toNat
def cntL (rings : List Int) (e : Int) (place : List Int) (ps : List (List Int)) : List Int :=
  (List.range e.toNat).map fun (i : Nat) => ((ps.countP fun q => decide (pairL rings e place q = (i : Int)) : Nat) : Int)
/-- the class of a label: those of all places that are the label taken j times -/
def kinS (rings : List Int) (label : List Int) : List (List Int) := (unitsL (ordL rings)).map fun j => repL rings label j
def canL (rings : List Int) (label : List Int) : List (List Int) := (placesL rings).filter fun q => decide (q ∈ kinS rings label)
def csL (rings : List Int) (e : Int) (poly : List Int) (ps : List (List Int)) (place : List Int) : Int := (redL (cntL rings e place ps) poly).getD 0 0
/-! ### the law's own -/
def signGo : List Int → Int → Int → Int
  | [], f, _ => f
  | p :: ps, f, left => if left % p = 0 then (if (left / p) % p = 0 then 0 else signGo ps (-f) (left / p)) else signGo ps f left
def signL (m : Int) : Int := signGo [2, 3, 5, 7, 11, 13, 17, 19, 23, 29, 31, 37, 41, 43, 47, 53, 59] 1 m
def ordGo (rings label : List Int) : Int :=
  (label.zip rings).foldl (fun m xl => let far := xl.2 / gcdI xl.2 xl.1; m * far / gcdI m far) 1
def ramL (m p q : Int) : Int := -- m, the pairing, e / m
  let gap := gcdI m (p / q)
  (((rgL 1 gap.toNat).filter fun d => decide (gap % d = 0)).map fun d => d * signL (m / d)).sum
def dueL (rings : List Int) (e : Int) (label place : List Int) : Int := ramL (ordGo rings label) (pairL rings e place label) (e / ordGo rings label)
def R14 : List (List Int) := [[6], [12], [2, 4], [7], [60], [3, 3], [2, 2, 2], [30, 2], [36], [5, 5], [2, 3, 5], [16], [59], [4, 15]]
def repsGo (rings : List Int) : List (List Int) → List (List Int) → List (List Int) → List (List Int)
  | [], _, out => out
  | l :: ls, told, out => if decide (l ∈ told) = true then repsGo rings ls told out else repsGo rings ls (told ++ canL rings l) (out ++ [l])
def repsL (rings : List Int) : List (List Int) := repsGo rings (placesL rings) [] []
end K18

/-! Tables, and what the kernel reckons of them. -/
namespace K18
def dotL : List Int → List Int → Int
  | a :: as, b :: bs => a * b + dotL as bs
  | _, _ => 0
def sumC (dv c : List Int) (n : Nat) : Nat → Int
  | 0 => 0
  | k + 1 => sumC dv c n k + dv.getD k 0 * c.getD (n + k) 0
def cv (deg : Nat) (dv : List Int) : Nat → List Int
  | 0 => 1 :: List.replicate (deg - 1) 0
  | n + 1 => cv deg dv n ++ [- sumC dv (cv deg dv n) n deg]
def tabE : List (Int × List Int × List Int) := [(6, [1, -1, 1], [1, 0, -1, -1, 0, 1]), (12, [1, 0, -1, 0, 1], [1, 0, 0, 0, -1, 0, -1, 0, 0, 0, 1, 0]), (4, [1, 0, 1], [1, 0, -1, 0]), (7, [1, 1, 1, 1, 1, 1, 1], [1, 0, 0, 0, 0, 0, -1]), (60, [1, 0, 1, 0, 0, 0, -1, 0, -1, 0, -1, 0, 0, 0, 1, 0, 1], [1, 0, 0, 0, 0, 0, 0, 0, 0, 0, 0, 0, 0, 0, 0, 0, -1, 0, 1, 0, -1, 0, 0, 0, 0, 0, -1, 0, 1, 0, -1, 0, 0, 0, 0, 0, 0, 0, 0, 0, 0, 0, 0, 0, 0, 0, 1, 0, -1, 0, 1, 0, 0, 0, 0, 0, 1, 0, -1, 0]), (3, [1, 1, 1], [1, 0, -1]), (2, [1, 1], [1, -1]), (30, [1, 1, 0, -1, -1, -1, 0, 1, 1], [1, 0, 0, 0, 0, 0, 0, 0, -1, 1, -1, 0, 0, -1, 1, -1, 0, 0, 0, 0, 0, 0, 0, 1, -1, 1, 0, 0, 1, -1]), (36, [1, 0, 0, 0, 0, 0, -1, 0, 0, 0, 0, 0, 1], [1, 0, 0, 0, 0, 0, 0, 0, 0, 0, 0, 0, -1, 0, 0, 0, 0, 0, -1, 0, 0, 0, 0, 0, 0, 0, 0, 0, 0, 0, 1, 0, 0, 0, 0, 0]), (5, [1, 1, 1, 1, 1], [1, 0, 0, 0, -1]), (16, [1, 0, 0, 0, 0, 0, 0, 0, 1], [1, 0, 0, 0, 0, 0, 0, 0, -1, 0, 0, 0, 0, 0, 0, 0]), (59, [1, 1, 1, 1, 1, 1, 1, 1, 1, 1, 1, 1, 1, 1, 1, 1, 1, 1, 1, 1, 1, 1, 1, 1, 1, 1, 1, 1, 1, 1, 1, 1, 1, 1, 1, 1, 1, 1, 1, 1, 1, 1, 1, 1, 1, 1, 1, 1, 1, 1, 1, 1, 1, 1, 1, 1, 1, 1, 1], [1, 0, 0, 0, 0, 0, 0, 0, 0, 0, 0, 0, 0, 0, 0, 0, 0, 0, 0, 0, 0, 0, 0, 0, 0, 0, 0, 0, 0, 0, 0, 0, 0, 0, 0, 0, 0, 0, 0, 0, 0, 0, 0, 0, 0, 0, 0, 0, 0, 0, 0, 0, 0, 0, 0, 0, 0, 0, -1])]
def tabR : List (List Int × List (List Int × List (List Int))) := [([6], [([0], [[0]]), ([1], [[1], [5]]), ([2], [[2], [4]]), ([3], [[3]])]), ([12], [([0], [[0]]), ([1], [[1], [5], [7], [11]]), ([2], [[2], [10]]), ([3], [[3], [9]]), ([4], [[4], [8]]), ([6], [[6]])]), ([2, 4], [([0, 0], [[0, 0]]), ([0, 1], [[0, 1], [0, 3]]), ([0, 2], [[0, 2]]), ([1, 0], [[1, 0]]), ([1, 1], [[1, 1], [1, 3]]), ([1, 2], [[1, 2]])]), ([7], [([0], [[0]]), ([1], [[1], [2], [3], [4], [5], [6]])]), ([60], [([0], [[0]]), ([1], [[1], [7], [11], [13], [17], [19], [23], [29], [31], [37], [41], [43], [47], [49], [53], [59]]), ([2], [[2], [14], [22], [26], [34], [38], [46], [58]]), ([3], [[3], [9], [21], [27], [33], [39], [51], [57]]), ([4], [[4], [8], [16], [28], [32], [44], [52], [56]]), ([5], [[5], [25], [35], [55]]), ([6], [[6], [18], [42], [54]]), ([10], [[10], [50]]), ([12], [[12], [24], [36], [48]]), ([15], [[15], [45]]), ([20], [[20], [40]]), ([30], [[30]])]), ([3, 3], [([0, 0], [[0, 0]]), ([0, 1], [[0, 1], [0, 2]]), ([1, 0], [[1, 0], [2, 0]]), ([1, 1], [[1, 1], [2, 2]]), ([1, 2], [[1, 2], [2, 1]])]), ([2, 2, 2], [([0, 0, 0], [[0, 0, 0]]), ([0, 0, 1], [[0, 0, 1]]), ([0, 1, 0], [[0, 1, 0]]), ([0, 1, 1], [[0, 1, 1]]), ([1, 0, 0], [[1, 0, 0]]), ([1, 0, 1], [[1, 0, 1]]), ([1, 1, 0], [[1, 1, 0]]), ([1, 1, 1], [[1, 1, 1]])]), ([30, 2], [([0, 0], [[0, 0]]), ([0, 1], [[0, 1]]), ([1, 0], [[1, 0], [7, 0], [11, 0], [13, 0], [17, 0], [19, 0], [23, 0], [29, 0]]), ([1, 1], [[1, 1], [7, 1], [11, 1], [13, 1], [17, 1], [19, 1], [23, 1], [29, 1]]), ([2, 0], [[2, 0], [4, 0], [8, 0], [14, 0], [16, 0], [22, 0], [26, 0], [28, 0]]), ([2, 1], [[2, 1], [4, 1], [8, 1], [14, 1], [16, 1], [22, 1], [26, 1], [28, 1]]), ([3, 0], [[3, 0], [9, 0], [21, 0], [27, 0]]), ([3, 1], [[3, 1], [9, 1], [21, 1], [27, 1]]), ([5, 0], [[5, 0], [25, 0]]), ([5, 1], [[5, 1], [25, 1]]), ([6, 0], [[6, 0], [12, 0], [18, 0], [24, 0]]), ([6, 1], [[6, 1], [12, 1], [18, 1], [24, 1]]), ([10, 0], [[10, 0], [20, 0]]), ([10, 1], [[10, 1], [20, 1]]), ([15, 0], [[15, 0]]), ([15, 1], [[15, 1]])]), ([36], [([0], [[0]]), ([1], [[1], [5], [7], [11], [13], [17], [19], [23], [25], [29], [31], [35]]), ([2], [[2], [10], [14], [22], [26], [34]]), ([3], [[3], [15], [21], [33]]), ([4], [[4], [8], [16], [20], [28], [32]]), ([6], [[6], [30]]), ([9], [[9], [27]]), ([12], [[12], [24]]), ([18], [[18]])]), ([5, 5], [([0, 0], [[0, 0]]), ([0, 1], [[0, 1], [0, 2], [0, 3], [0, 4]]), ([1, 0], [[1, 0], [2, 0], [3, 0], [4, 0]]), ([1, 1], [[1, 1], [2, 2], [3, 3], [4, 4]]), ([1, 2], [[1, 2], [2, 4], [3, 1], [4, 3]]), ([1, 3], [[1, 3], [2, 1], [3, 4], [4, 2]]), ([1, 4], [[1, 4], [2, 3], [3, 2], [4, 1]])]), ([2, 3, 5], [([0, 0, 0], [[0, 0, 0]]), ([0, 0, 1], [[0, 0, 1], [0, 0, 2], [0, 0, 3], [0, 0, 4]]), ([0, 1, 0], [[0, 1, 0], [0, 2, 0]]), ([0, 1, 1], [[0, 1, 1], [0, 1, 2], [0, 1, 3], [0, 1, 4], [0, 2, 1], [0, 2, 2], [0, 2, 3], [0, 2, 4]]), ([1, 0, 0], [[1, 0, 0]]), ([1, 0, 1], [[1, 0, 1], [1, 0, 2], [1, 0, 3], [1, 0, 4]]), ([1, 1, 0], [[1, 1, 0], [1, 2, 0]]), ([1, 1, 1], [[1, 1, 1], [1, 1, 2], [1, 1, 3], [1, 1, 4], [1, 2, 1], [1, 2, 2], [1, 2, 3], [1, 2, 4]])]), ([16], [([0], [[0]]), ([1], [[1], [3], [5], [7], [9], [11], [13], [15]]), ([2], [[2], [6], [10], [14]]), ([4], [[4], [12]]), ([8], [[8]])]), ([59], [([0], [[0]]), ([1], [[1], [2], [3], [4], [5], [6], [7], [8], [9], [10], [11], [12], [13], [14], [15], [16], [17], [18], [19], [20], [21], [22], [23], [24], [25], [26], [27], [28], [29], [30], [31], [32], [33], [34], [35], [36], [37], [38], [39], [40], [41], [42], [43], [44], [45], [46], [47], [48], [49], [50], [51], [52], [53], [54], [55], [56], [57], [58]])]), ([4, 15], [([0, 0], [[0, 0]]), ([0, 1], [[0, 1], [0, 2], [0, 4], [0, 7], [0, 8], [0, 11], [0, 13], [0, 14]]), ([0, 3], [[0, 3], [0, 6], [0, 9], [0, 12]]), ([0, 5], [[0, 5], [0, 10]]), ([1, 0], [[1, 0], [3, 0]]), ([1, 1], [[1, 1], [1, 2], [1, 4], [1, 7], [1, 8], [1, 11], [1, 13], [1, 14], [3, 1], [3, 2], [3, 4], [3, 7], [3, 8], [3, 11], [3, 13], [3, 14]]), ([1, 3], [[1, 3], [1, 6], [1, 9], [1, 12], [3, 3], [3, 6], [3, 9], [3, 12]]), ([1, 5], [[1, 5], [1, 10], [3, 5], [3, 10]]), ([2, 0], [[2, 0]]), ([2, 1], [[2, 1], [2, 2], [2, 4], [2, 7], [2, 8], [2, 11], [2, 13], [2, 14]]), ([2, 3], [[2, 3], [2, 6], [2, 9], [2, 12]]), ([2, 5], [[2, 5], [2, 10]])])]
def vecOf (e : Int) : List Int := ((tabE.find? fun t => decide (t.1 = e)).map fun t => t.2.2).getD []
theorem tabE_ok : ∀ t ∈ tabE, polyL t.1 = t.2.1 ∧ cv (t.2.1.length - 1) t.2.1 (t.1.toNat - (t.2.1.length - 1)) = t.2.2 := by decide +kernel
theorem tabR_keys : tabR.map (·.1) = R14 := by decide +kernel
theorem tabR_reps : ∀ t ∈ tabR, repsL t.1 = t.2.map (·.1) := by decide +kernel
theorem tabR_all : ∀ t ∈ tabR, ∀ l ∈ placesL t.1, (t.2.any fun c => decide (l ∈ c.2)) = true := by decide +kernel
def rwL (n : Nat) : List Int × List (List Int × List (List Int)) := tabR.getD n ([], [])
def canOk (n lo : Nat) : Prop := ∀ c ∈ (rwL n).2, ∀ k ∈ (c.2.drop lo).take 15, canL (rwL n).1 k = c.2
instance (n lo : Nat) : Decidable (canOk n lo) := by unfold canOk; infer_instance
theorem can_0_0 : canOk 0 0 := by decide +kernel
theorem can_0_15 : canOk 0 15 := by decide +kernel
theorem can_0_30 : canOk 0 30 := by decide +kernel
theorem can_0_45 : canOk 0 45 := by decide +kernel
theorem can_1_0 : canOk 1 0 := by decide +kernel
theorem can_1_15 : canOk 1 15 := by decide +kernel
theorem can_1_30 : canOk 1 30 := by decide +kernel
theorem can_1_45 : canOk 1 45 := by decide +kernel
theorem can_2_0 : canOk 2 0 := by decide +kernel
theorem can_2_15 : canOk 2 15 := by decide +kernel
theorem can_2_30 : canOk 2 30 := by decide +kernel
theorem can_2_45 : canOk 2 45 := by decide +kernel
theorem can_3_0 : canOk 3 0 := by decide +kernel
theorem can_3_15 : canOk 3 15 := by decide +kernel
theorem can_3_30 : canOk 3 30 := by decide +kernel
theorem can_3_45 : canOk 3 45 := by decide +kernel
theorem can_4_0 : canOk 4 0 := by decide +kernel
theorem can_4_15 : canOk 4 15 := by decide +kernel
theorem can_4_30 : canOk 4 30 := by decide +kernel
theorem can_4_45 : canOk 4 45 := by decide +kernel
theorem can_5_0 : canOk 5 0 := by decide +kernel
theorem can_5_15 : canOk 5 15 := by decide +kernel
theorem can_5_30 : canOk 5 30 := by decide +kernel
theorem can_5_45 : canOk 5 45 := by decide +kernel
theorem can_6_0 : canOk 6 0 := by decide +kernel
theorem can_6_15 : canOk 6 15 := by decide +kernel
theorem can_6_30 : canOk 6 30 := by decide +kernel
theorem can_6_45 : canOk 6 45 := by decide +kernel
theorem can_7_0 : canOk 7 0 := by decide +kernel
theorem can_7_15 : canOk 7 15 := by decide +kernel
theorem can_7_30 : canOk 7 30 := by decide +kernel
theorem can_7_45 : canOk 7 45 := by decide +kernel
theorem can_8_0 : canOk 8 0 := by decide +kernel
theorem can_8_15 : canOk 8 15 := by decide +kernel
theorem can_8_30 : canOk 8 30 := by decide +kernel
theorem can_8_45 : canOk 8 45 := by decide +kernel
theorem can_9_0 : canOk 9 0 := by decide +kernel
theorem can_9_15 : canOk 9 15 := by decide +kernel
theorem can_9_30 : canOk 9 30 := by decide +kernel
theorem can_9_45 : canOk 9 45 := by decide +kernel
theorem can_10_0 : canOk 10 0 := by decide +kernel
theorem can_10_15 : canOk 10 15 := by decide +kernel
theorem can_10_30 : canOk 10 30 := by decide +kernel
theorem can_10_45 : canOk 10 45 := by decide +kernel
theorem can_11_0 : canOk 11 0 := by decide +kernel
theorem can_11_15 : canOk 11 15 := by decide +kernel
theorem can_11_30 : canOk 11 30 := by decide +kernel
theorem can_11_45 : canOk 11 45 := by decide +kernel
theorem can_12_0 : canOk 12 0 := by decide +kernel
theorem can_12_15 : canOk 12 15 := by decide +kernel
theorem can_12_30 : canOk 12 30 := by decide +kernel
theorem can_12_45 : canOk 12 45 := by decide +kernel
theorem can_13_0 : canOk 13 0 := by decide +kernel
theorem can_13_15 : canOk 13 15 := by decide +kernel
theorem can_13_30 : canOk 13 30 := by decide +kernel
theorem can_13_45 : canOk 13 45 := by decide +kernel
theorem can_in15 {n : Nat} (h0 : canOk n 0) (h1 : canOk n 15) (h2 : canOk n 30) (h3 : canOk n 45) (hl : ∀ c ∈ (rwL n).2, c.2.length ≤ 60) : ∀ c ∈ (rwL n).2, ∀ k ∈ c.2, canL (rwL n).1 k = c.2 := by
  intro c hc k hk
  obtain ⟨i, hi, rfl⟩ := List.getElem_of_mem hk
  have key : ∀ lo, lo ≤ i → i < lo + 15 → c.2[i] ∈ (c.2.drop lo).take 15 := fun lo a b => by
    refine List.mem_of_getElem? (i := i - lo) ?_
    rw [List.getElem?_take, if_pos (by omega), List.getElem?_drop, show lo + (i - lo) = i by omega]
    exact List.getElem?_eq_getElem hi
  have := hl c hc
  by_cases a1 : i < 15
  · exact h0 c hc _ (key 0 (by omega) (by omega))
  · by_cases a2 : i < 30
    · exact h1 c hc _ (key 15 (by omega) (by omega))
    · by_cases a3 : i < 45
      · exact h2 c hc _ (key 30 (by omega) (by omega))
      · exact h3 c hc _ (key 45 (by omega) (by omega))
theorem rw_len : ∀ t ∈ tabR, ∀ c ∈ t.2, c.2.length ≤ 60 := by decide +kernel
theorem can_all : ∀ n, n < 14 → ∀ c ∈ (rwL n).2, ∀ k ∈ c.2, canL (rwL n).1 k = c.2
  | 0, _ => can_in15 can_0_0 can_0_15 can_0_30 can_0_45 (rw_len _ (List.mem_of_getElem? (i := 0) rfl))
  | 1, _ => can_in15 can_1_0 can_1_15 can_1_30 can_1_45 (rw_len _ (List.mem_of_getElem? (i := 1) rfl))
  | 2, _ => can_in15 can_2_0 can_2_15 can_2_30 can_2_45 (rw_len _ (List.mem_of_getElem? (i := 2) rfl))
  | 3, _ => can_in15 can_3_0 can_3_15 can_3_30 can_3_45 (rw_len _ (List.mem_of_getElem? (i := 3) rfl))
  | 4, _ => can_in15 can_4_0 can_4_15 can_4_30 can_4_45 (rw_len _ (List.mem_of_getElem? (i := 4) rfl))
  | 5, _ => can_in15 can_5_0 can_5_15 can_5_30 can_5_45 (rw_len _ (List.mem_of_getElem? (i := 5) rfl))
  | 6, _ => can_in15 can_6_0 can_6_15 can_6_30 can_6_45 (rw_len _ (List.mem_of_getElem? (i := 6) rfl))
  | 7, _ => can_in15 can_7_0 can_7_15 can_7_30 can_7_45 (rw_len _ (List.mem_of_getElem? (i := 7) rfl))
  | 8, _ => can_in15 can_8_0 can_8_15 can_8_30 can_8_45 (rw_len _ (List.mem_of_getElem? (i := 8) rfl))
  | 9, _ => can_in15 can_9_0 can_9_15 can_9_30 can_9_45 (rw_len _ (List.mem_of_getElem? (i := 9) rfl))
  | 10, _ => can_in15 can_10_0 can_10_15 can_10_30 can_10_45 (rw_len _ (List.mem_of_getElem? (i := 10) rfl))
  | 11, _ => can_in15 can_11_0 can_11_15 can_11_30 can_11_45 (rw_len _ (List.mem_of_getElem? (i := 11) rfl))
  | 12, _ => can_in15 can_12_0 can_12_15 can_12_30 can_12_45 (rw_len _ (List.mem_of_getElem? (i := 12) rfl))
  | 13, _ => can_in15 can_13_0 can_13_15 can_13_30 can_13_45 (rw_len _ (List.mem_of_getElem? (i := 13) rfl))
  | n + 14, h => absurd h (by omega)
theorem tabR_can : ∀ t ∈ tabR, ∀ c ∈ t.2, ∀ k ∈ c.2, canL t.1 k = c.2 := by
  intro t ht
  obtain ⟨i, hi, rfl⟩ := List.getElem_of_mem ht
  have e : rwL i = tabR[i] := by
    unfold rwL
    rw [List.getD_eq_getElem?_getD, List.getElem?_eq_getElem hi]
    rfl
  rw [← e]
  exact can_all i hi
end K18

namespace K18
def eL14 : List Int := [6, 12, 4, 7, 60, 3, 2, 30, 36, 5, 30, 16, 59, 60]
def tabZ : List (Int × List Int × List (List Int × List (List Int))) := eL14.zip tabR
def gapM (r : List Int) (e m : Int) (l x : List Int) : Int := gcdI m (pairL r e x l / (e / m))
def st0 (r : List Int) : List Int := List.replicate r.length 0
theorem z_ord : ∀ t ∈ tabZ, ordL t.2.1 = t.1 := by decide +kernel
theorem z_m : ∀ t ∈ tabZ, ∀ c ∈ t.2.2, ∀ k ∈ c.2, ordGo t.2.1 k = ordGo t.2.1 c.1 := by decide +kernel
theorem z_gap : ∀ t ∈ tabZ, ∀ c ∈ t.2.2, ∀ k ∈ c.2, ∀ x ∈ placesL t.2.1, gapM t.2.1 t.1 (ordGo t.2.1 c.1) k x = gapM t.2.1 t.1 (ordGo t.2.1 c.1) c.1 x := by decide +kernel
theorem z_div : ∀ t ∈ tabZ, ∀ c ∈ t.2.2, t.1 % ordGo t.2.1 c.1 = 0 ∧ (1 ≤ ordGo t.2.1 c.1 ∧ ordGo t.2.1 c.1 ≤ 60) ∧ ∀ k ∈ c.2, ∀ x ∈ placesL t.2.1, pairL t.2.1 t.1 x k % (t.1 / ordGo t.2.1 c.1) = 0 := by decide +kernel
theorem z_st1 : ∀ t ∈ tabZ, ∀ x ∈ placesL t.2.1, dueL t.2.1 t.1 (st0 t.2.1) x = 1 := by decide +kernel
theorem z_st2 : ∀ t ∈ tabZ, ∀ c ∈ t.2.2, dueL t.2.1 t.1 c.1 (st0 t.2.1) = ((c.2.length : Nat) : Int) := by decide +kernel
theorem z_units : ∀ e ∈ [6, 12, 4, 7, 60, 3, 2, 30, 36, 5, 16, 59], ∀ m ∈ rgL 1 60, (e : Int) % m = 0 → ∀ p ∈ rgL 0 e.toNat, p % (e / m) = 0 → ∀ j ∈ unitsL e, gcdI m ((p * j) % e / (e / m)) = gcdI m (p / (e / m)) := by decide +kernel
end K18

namespace K18
theorem z_due : ∀ t ∈ tabZ, ∀ c ∈ t.2.2, ∀ x ∈ placesL t.2.1, (c.2.map fun q => (vecOf t.1).getD (pairL t.2.1 t.1 x q).toNat 0).sum = dueL t.2.1 t.1 c.1 x := by decide +kernel
theorem z_sum : ∀ t ∈ tabZ, ∀ x ∈ placesL t.2.1, (t.2.2.map fun c => dueL t.2.1 t.1 c.1 x).sum = if x = st0 t.2.1 then t.2.1.foldl (fun a b => a * b) 1 else 0 := by decide +kernel
theorem z_bd : ∀ t ∈ tabZ, ∀ c ∈ t.2.2, ∀ x ∈ placesL t.2.1, -60 ≤ dueL t.2.1 t.1 c.1 x ∧ dueL t.2.1 t.1 c.1 x ≤ 60 := by decide +kernel
end K18

/-! The text by places; heaps. -/
namespace K18
open PySem PySem.Spec PyProof.Rows L2
def top (i : Nat) : Stmt := PySem.Challenge.pw_ringvoices_k18_whole_class_sums.main.body.getD i (.Pass ⟨0, 0, 0, 0⟩)
abbrev sUnits : Stmt := top 3
abbrev sPrimes : Stmt := top 4
abbrev sPlaces : Stmt := top 6
abbrev sOrder : Stmt := top 7
abbrev sRep : Stmt := top 8
abbrev sKin : Stmt := top 9
abbrev sPaired : Stmt := top 10
abbrev sPoly : Stmt := top 12
abbrev sStr : Stmt := top 13
abbrev sDiv : Stmt := top 14
abbrev sRed : Stmt := top 15
abbrev sFInit : Stmt := inClass (top 17) 0
abbrev sFPair : Stmt := inClass (top 17) 1
abbrev sIsInt : Stmt := top 23
abbrev sIsInts : Stmt := top 24
abbrev sAre : Stmt := top 28
abbrev sSize : Stmt := top 29
abbrev sChkR : Stmt := top 30
abbrev sIsPl : Stmt := top 31
abbrev sChkP : Stmt := top 32
abbrev sOrdOf : Stmt := top 33
abbrev sClasses : Stmt := top 34
abbrev sClSum : Stmt := top 36
abbrev sSumT : Stmt := top 37
abbrev sDeck : Stmt := top 39
abbrev sDraw : Stmt := top 40
abbrev sPick : Stmt := top 41
abbrev sCommon : Stmt := top 42
abbrev sLPair : Stmt := top 43
abbrev sLClass : Stmt := top 44
abbrev sLFloor : Stmt := top 45
abbrev sSign : Stmt := top 46
abbrev sLSum : Stmt := top 47
abbrev sTimes : Stmt := top 48
abbrev sLaw : Stmt := top 49
abbrev FnP (K : PySem.W.Frag) (x : Str) (st : Stmt) (f : Addr) (fd : FuncData) : Prop := FunD K x x (defArgs st) (defBody st) (defScope st) [] [] f fd
def blt : List Str := ["int", "bool", "list", "len", "isinstance", "tuple", "abs", "max", "min", "range", "repr", "sum", "all", "sorted", "set", "enumerate", "zip"]
/-- the names that the module leaves to the built-ins -/
def Bl (mg : Str → Option Value) : Prop := ∀ x ∈ blt, mg x = none
/-! ### heaps -/
theorem same_new {H H1 : Hp} {p : Addr} {o : HO} (e : Same H H1) (h : H1 p = none) : Same H (upd H1 p o) := fun b u q => by
  have q1 := e b u q
  rw [upd_ne (ne_of_none q1 h)]
  exact q1
theorem same_at {H H1 : Hp} {p : Addr} {o : HO} (e : Same H H1) (h : H p = none) : Same H (upd H1 p o) := fun b u q => by
  rw [upd_ne (ne_of_none q h)]
  exact e b u q
theorem same_upd {H : Hp} {p : Addr} {o : HO} (h : H p = none) : Same H (upd H p o) := same_new (Same.refl H) h
theorem SqT.ext {K : PySem.W.Frag} {H H' : Hp} {a : Addr} {xs : List V} (h : SqT K H a xs) (e : Same H H') : SqT K H' a xs := by
  rcases h with h | h
  · rcases h with h | ⟨o, h⟩
    · exact .inl (.inl (e _ _ h))
    · exact .inl (.inr ⟨o, e _ _ h⟩)
  · exact .inr h
theorem _root_.L2.Same.tup {K : PySem.W.Frag} {H H' : Hp} {a : Addr} {xs : List V} (e : Same H H') (h : SqT K H a xs) : SqT K H' a xs := SqT.ext h e
theorem _root_.L2.Same.tupI {K : PySem.W.Frag} {H H' : Hp} {v : V} {ns : List Int} (e : Same H H') (h : TupI K H v ns) : TupI K H' v ns := by
  obtain ⟨t, rfl, q⟩ := h
  exact ⟨t, rfl, SqT.ext q e⟩
theorem tupI_of {K : PySem.W.Frag} {H : Hp} {p : Addr} {ns : List Int} (h : H p = some (.tup (ns.map V.int))) : TupI K H (.ref p) ns := ⟨p, rfl, SqT.of h⟩
/-- tuples of ints, at their addresses -/
abbrev TL (K : PySem.W.Frag) (H : Hp) (ks : List (Addr × List Int)) : Prop := ∀ p ∈ ks, SqT K H p.1 (p.2.map V.int)
abbrev rf (ks : List (Addr × List Int)) : List V := ks.map fun p => V.ref p.1
theorem _root_.L2.Same.tl {K : PySem.W.Frag} {H H' : Hp} {ks : List (Addr × List Int)} (e : Same H H') (h : TL K H ks) : TL K H' ks := fun p hp => SqT.ext (h p hp) e
theorem tl_nil {K : PySem.W.Frag} {H : Hp} : TL K H [] := fun p hp => absurd hp (by simp)
theorem tl_snoc {K : PySem.W.Frag} {H : Hp} {ks : List (Addr × List Int)} {a : Addr} {ns : List Int} (h : TL K H ks) (q : SqT K H a (ns.map V.int)) : TL K H (ks ++ [(a, ns)]) := fun p hp => by
  rcases List.mem_append.mp hp with z | z
  · exact h p z
  · rw [List.mem_singleton.mp z]
    exact q
theorem sqt_at {K : PySem.W.Frag} {H : Hp} {a D : Addr} {xs ys : List V} {o : HO} (h : SqT K H a xs) (hD : H D = some (.lst ys)) : SqT K (upd H D o) a xs := by
  rcases h with h | h
  · rcases h with h | ⟨u, h⟩
    · exact .inl (.inl (by rw [upd_ne (ne_of h hD (by intro z; cases z))]; exact h))
    · exact .inl (.inr ⟨u, by rw [upd_ne (ne_of h hD (by intro z; cases z))]; exact h⟩)
  · exact .inr h
theorem tl_at {K : PySem.W.Frag} {H : Hp} {D : Addr} {ks : List (Addr × List Int)} {ys : List V} {o : HO} (h : TL K H ks) (hD : H D = some (.lst ys)) : TL K (upd H D o) ks := fun p hp => sqt_at (h p hp) hD
/-- a list of places, at a -/
def PlL (K : PySem.W.Frag) (H : Hp) (a : Addr) (ps : List (List Int)) : Prop := ∃ ks, H a = some (.lst (rf ks)) ∧ ks.map (·.2) = ps ∧ TL K H ks
theorem _root_.L2.Same.pll {K : PySem.W.Frag} {H H' : Hp} {a : Addr} {ps : List (List Int)} (e : Same H H') (h : PlL K H a ps) : PlL K H' a ps := by
  obtain ⟨ks, h1, h2, h3⟩ := h
  exact ⟨ks, e _ _ h1, h2, fun p hp => SqT.ext (h3 p hp) e⟩
theorem getI {ns : List Int} {i : Nat} {y : V} (h : (ns.map V.int)[i]? = some y) : ∃ c, y = V.int c ∧ ns[i]? = some c := by
  rw [List.getElem?_map] at h
  cases e : ns[i]? with
  | none =>
    rw [e] at h
    cases h
  | some c =>
    rw [e] at h
    exact ⟨c, (Option.some.inj h).symm, rfl⟩
theorem getR {ks : List (Addr × List Int)} {i : Nat} {y : V} (h : (rf ks)[i]? = some y) : ∃ p, y = V.ref p.1 ∧ ks[i]? = some p := by
  rw [List.getElem?_map] at h
  cases e : ks[i]? with
  | none =>
    rw [e] at h
    cases h
  | some c =>
    rw [e] at h
    exact ⟨c, (Option.some.inj h).symm, rfl⟩
theorem ofI {ns : List Int} {i : Nat} {c : Int} (h : ns[i]? = some c) : (ns.map V.int)[i]? = some (V.int c) := by
  rw [List.getElem?_map, h]
  rfl
theorem takeS {α : Type} {l : List α} {i : Nat} {x : α} (h : l[i]? = some x) : l.take (i + 1) = l.take i ++ [x] := by
  rw [List.take_succ, h]
  rfl
theorem ltL {α : Type} {l : List α} {i : Nat} {x : α} (h : l[i]? = some x) : i < l.length := (List.getElem?_eq_some_iff.mp h).1
theorem sl_1000 {n : Nat} (h : n ≤ 100000) : n ≤ sizeLine := by
  rw [sizeLine_eq]
  omega
theorem sl_lt {n : Nat} (h : n ≤ 100000) : n < sizeLine := by
  rw [sizeLine_eq]
  omega
end K18

namespace K18
open PySem PySem.Spec PyProof.Rows L2
section
variable {P : Program} {w : World} {K : PySem.W.Frag} {mg : Str → Option Value} {base : Heap} {f : Addr} {fd : FuncData}
theorem eqI {a b : Int} (c : decide (V.int a = V.int b) = true) : a = b := V.int.inj (of_decide_eq_true c)
theorem neI {a b : Int} (c : ¬ decide (V.int a = V.int b) = true) : ¬ a = b := fun e => c (by rw [e]; exact decide_eq_true rfl)
/-! ### units_of -/
def spUnits : Sp := fun vs H Q _ => ∃ e : Int, vs = [.int e] ∧ 1 ≤ e ∧ e ≤ 60 ∧ ∀ p H', Same H H' → H p = none → H' p = some (.lst ((unitsL e).map V.int)) → Q (.ref p) H'
theorem scUnits : FnScope ["order", "j"] ["order"] (defScope sUnits) := ⟨rfl, rfl, rfl, by decide +kernel, rfl, by decide +kernel, by decide +kernel⟩
theorem rgF_succ (p : Int → Bool) (lo : Int) (n : Nat) : (rgL lo (n + 1)).filter p = if p (lo + (n : Int)) = true then (rgL lo n).filter p ++ [lo + (n : Int)] else (rgL lo n).filter p := by
  rw [rgL_succ, List.filter_append]
  by_cases h : p (lo + (n : Int)) = true
  · rw [if_pos h]
    simp [h]
  · rw [if_neg h]
    simp [h]
theorem ok_units (F : FnP K "units_of" sUnits f fd) (B : Bl mg) (gG : mg "gcd" = some (.builtin "math.gcd")) : FnOk P w K mg base CX0 1 f fd ["order"] spUnits := by
  refine F.ok scUnits (fun vs H Q E h => ?_) (fun cdv A outer s H vs Q E hr h => ?_)
  · obtain ⟨e, rfl, _⟩ := h
    rfl
  · obtain ⟨e, rfl, h1, h2, k⟩ := h
    refine ⟨_, PSs.nox (pss_one (ps_ret (pe_lc (own := [("j", 1)]) (g := gName 1) (te := tVar 1) rfl scUnits.nd (pi_range2 rfl (B "range" (by decide +kernel)) (pa_cons pe_int (pa_cons (pe_op op_add (pv 0) pe_int) pa_nil)))
      (blkOk_by (own := [("j", 1)]) (N := ["order", "j"]) (sc := defScope sUnits) (by decide +kernel)) (fun _ _ _ _ _ => pg_name (i := 1) scUnits.nd rfl (Or.inl rfl)) (fun _ _ _ _ _ => pts_one (pt_cmpR op_eq (pe_callBfun cr_gcd rfl gG (pa_cons (pv 1) (pa_cons (pv 0) pa_nil))) pe_int (nomark _))) (fun _ _ _ _ _ => pv 1)))), ?_⟩
    refine ⟨_, rfl, _, _, rfl, rfl, 1, e + 1, rfl, ⟨by omega, by omega, by omega, by omega⟩, fun D hD => ?_⟩
    have en : (e + 1 - 1).toNat = e.toNat := by
      congr 1
      omega
    rw [en]
    refine lc_range (lo := 1) (n := e.toNat) (fun i H2 => Same H H2 ∧ H2 D = some (.lst (((rgL 1 i).filter fun j => decide (gcdI j e = 1)).map V.int))) ⟨same_upd hD, upd_same⟩ ?_ ?_
    · rintro i H2 hi ⟨s2, h2⟩
      refine ⟨rfl, _, rfl, _, rfl, _, _, rfl, rfl, _, rfl, ?_⟩
      refine ite2 (fun c => ?_) (fun c => ?_)
      · have c1 : gcdI (1 + (i : Int)) e = 1 := eqI c
        refine ⟨_, rfl, _, h2, sl_lt ?_, same_at s2 hD, ?_⟩
        · rw [List.length_map]
          exact Nat.le_trans (List.length_filter_le _ _) (by rw [rgL_len]; omega)
        · rw [upd_same, rgF_succ, if_pos (decide_eq_true c1), List.map_append]
          rfl
      · have c1 : ¬ gcdI (1 + (i : Int)) e = 1 := neI c
        exact ⟨s2, by rw [rgF_succ, if_neg (by simp [c1])]; exact h2⟩
    · rintro H2 ⟨s2, h2⟩
      exact k D H2 s2 hD h2
end
end K18

namespace K18
open PySem PySem.Spec PyProof.Rows L2
abbrev rMod : R2 := rI (fun _ j => 0 < j) fun i j => .int (i % j)
abbrev rMul : R2 := rI CMul fun i j => .int (i * j)
abbrev rFdv : R2 := rI CDiv fun i j => .int (i / j)
abbrev rPlus : R2 := rI0 fun i j => .int (i + j)
abbrev rMinus : R2 := rI0 fun i j => .int (i - j)
section
variable {X : Cx}
def rLcm : List V → Hp → VK → Prop := fun vs H Q => ∃ a b : Int, vs = [.int a, .int b] ∧ a.natAbs < 2 ^ 64 ∧ b.natAbs < 2 ^ 64 ∧ (lcmI a b).natAbs ≤ 1000 ∧ Q (.int (lcmI a b)) H
theorem cr_lcm : CallR X (.builtin "math.lcm") rLcm := by
  intro pins s σ H vs us Q I r h
  obtain ⟨a, b, rfl, h1, h2, h3, q⟩ := h
  obtain ⟨t, u, rfl⟩ := Vals.int2 r
  exact PySem.W.mg_lcm h1 h2 (Nat.lt_of_le_of_lt (Nat.le_trans (Nat.log2_le_self _) h3) (by decide)) ⟨.int _, H, I.tok _, ⟨_, rfl⟩, q⟩
end
/-! ### facts of the fourteen rings -/
theorem r14_ord : ∀ r ∈ R14, ∀ i ∈ List.range (r.length + 1), (ordL (r.take i)).natAbs ≤ 60 := by decide +kernel
theorem r14_pos : ∀ r ∈ R14, ∀ l ∈ r, 2 ≤ l ∧ l ≤ 60 := by decide +kernel
theorem r14_len : ∀ r ∈ R14, 1 ≤ r.length ∧ r.length ≤ 3 := by decide +kernel
section
variable {P : Program} {w : World} {K : PySem.W.Frag} {mg : Str → Option Value} {base : Heap} {f : Addr} {fd : FuncData}
/-! ### common_order -/
def spOrder (K : PySem.W.Frag) : Sp := fun vs H Q _ => ∃ (v : V) (r : List Int), vs = [v] ∧ TupI K H v r ∧ r ∈ R14 ∧ ∀ H', Same H H' → Q (.int (ordL r)) H'
theorem scOrder : FnScope ["rings", "order", "length"] ["rings"] (defScope sOrder) := ⟨rfl, rfl, rfl, by decide +kernel, rfl, by decide +kernel, by decide +kernel⟩
theorem ord_take {r : List Int} {i : Nat} {x : Int} (h : r[i]? = some x) : ordL (r.take (i + 1)) = lcmI (ordL (r.take i)) x := by
  rw [takeS h]
  unfold ordL
  rw [List.foldl_append]
  rfl
theorem ok_order (F : FnP K "common_order" sOrder f fd) (B : Bl mg) (gL : mg "lcm" = some (.builtin "math.lcm")) : FnOk P w K mg base CX0 1 f fd ["rings"] (spOrder K) := by
  refine F.ok scOrder (fun vs H Q E h => ?_) (fun cdv A outer s H vs Q E hr h => ?_)
  · obtain ⟨v, r, rfl, _⟩ := h
    rfl
  · obtain ⟨v, r, rfl, ⟨a, rfl, ha⟩, h14, k⟩ := h
    refine ⟨_, PSs.nox (pss_cons (ps_set (i := 1) scOrder.nd rfl (Or.inl rfl) pe_int)
      (pss_cons (ps_for PassesOwn.never rfl (pi_tup (pv 0)) (pg_name (i := 2) scOrder.nd rfl (Or.inl rfl)) (pss_one (ps_set (i := 1) scOrder.nd rfl (Or.inl rfl) (pe_callBfun cr_lcm rfl gL (pa_cons (pv 1) (pa_cons (pv 2) pa_nil))))))
      (pss_one (ps_ret (pv 1))))), ?_⟩
    refine ⟨_, rfl, a, rfl, ⟨_, ha⟩, for_tup (K := K) (a := a) (xs := r.map V.int) (fun i σ H2 => ∃ u, σ = [some (.ref a), some (.int (ordL (r.take i))), u] ∧ H2 = H) ⟨none, rfl, rfl⟩ (fun i σ H2 _ ⟨_, _, e⟩ => by rw [e]; exact ha) ?_ ?_⟩
    · rintro i y σ H2 hi ⟨u, rfl, rfl⟩
      obtain ⟨c, rfl, hc⟩ := getI hi
      have hl := ltL hc
      have hb := r14_pos r h14 c (List.mem_of_getElem? hc)
      have h1 := r14_ord r h14 i (List.mem_range.mpr (by omega))
      have h2 := r14_ord r h14 (i + 1) (List.mem_range.mpr (by omega))
      rw [ord_take hc] at h2
      exact ⟨_, rfl, _, rfl, _, _, rfl, by omega, by omega, by omega, some (.int c), by rw [ord_take hc]; rfl, rfl⟩
    · rintro σ H2 ⟨u, rfl, rfl⟩
      refine ⟨_, rfl, ?_⟩
      rw [List.length_map, List.take_length]
      exact k _ (Same.refl _)
/-! ### repeated -/
def spRep (K : PySem.W.Frag) : Sp := fun vs H Q _ => ∃ (v u : V) (r p : List Int) (j : Int), vs = [v, u, .int j] ∧ TupI K H v r ∧ TupI K H u p ∧ r ∈ R14 ∧ p.length = r.length ∧ -1000 ≤ j ∧ j ≤ 1000 ∧ ∀ t H', Same H H' → H t = none → H' t = some (.tup ((repL r p j).map V.int)) → Q (.ref t) H'
theorem scRep : FnScope ["rings", "place", "many", "k"] ["rings", "place", "many"] (defScope sRep) := ⟨rfl, rfl, rfl, by decide +kernel, rfl, by decide +kernel, by decide +kernel⟩
theorem getD_of {l : List Int} {i : Nat} (h : i < l.length) : (l.map V.int)[i]? = some (V.int (l.getD i 0)) := by
  refine ofI ?_
  rw [List.getElem?_eq_getElem h, List.getD_eq_getElem?_getD, List.getElem?_eq_getElem h]
  rfl
theorem r14_get {r : List Int} (h : r ∈ R14) {i : Nat} (hi : i < r.length) : 2 ≤ r.getD i 0 ∧ r.getD i 0 ≤ 60 := by
  rw [List.getD_eq_getElem?_getD, List.getElem?_eq_getElem hi]
  exact r14_pos r h _ (List.getElem_mem hi)
theorem ok_rep (F : FnP K "repeated" sRep f fd) (B : Bl mg) : FnOk P w K mg base CX0 1 f fd ["rings", "place", "many"] (spRep K) := by
  refine F.ok scRep (fun vs H Q E h => ?_) (fun cdv A outer s H vs Q E hr h => ?_)
  · obtain ⟨v, u, r, p, j, rfl, _⟩ := h
    rfl
  · obtain ⟨v, u, r, p, j, rfl, ⟨a, rfl, ha⟩, ⟨b, rfl, hb⟩, h14, hl, j1, j2, k⟩ := h
    refine ⟨_, PSs.nox (pss_one (ps_ret (pe_callTy call_tuple_of (by rfl) (B "tuple" (by decide +kernel)) (by decide +kernel) (pa_cons
      (pe_lc (own := [("k", 3)]) (g := gName 3) (tt := tYes) (te := tOp rMod (tOp rMul (tOp (rIxT K) (tVar 1) (tVar 3)) (tVar 2)) (tOp (rIxT K) (tVar 0) (tVar 3))) rfl scRep.nd (pi_range1 rfl (B "range" (by decide +kernel)) (pa_cons (pe_callB call_len_seq (by rfl) (B "len" (by decide +kernel)) PySem.boot_len (pa_cons (pv 0) pa_nil)) pa_nil))
        (blkOk_by (own := [("k", 3)]) (N := ["rings", "place", "many", "k"]) (sc := defScope sRep) (by decide +kernel)) (fun _ _ _ _ _ => pg_name (i := 3) scRep.nd rfl (Or.inl rfl)) (fun _ _ _ _ _ => pts_nil) (fun _ _ _ _ _ => pe_op op_mod (pe_op op_mul (pe_ix ix_tup (pv 1) (pv 3) (fun _ _ => rfl)) (pv 2)) (pe_ix ix_tup (pv 0) (pv 3) (fun _ _ => rfl)))) pa_nil)))), ?_⟩
    have hn := r14_len r h14
    refine ⟨_, rfl, a, _, rfl, .inr ha, _, rfl, by rw [List.length_map]; omega, by rw [List.length_map]; omega, fun D hD => ?_⟩
    have en : ((r.map V.int).length : Int).toNat = r.length := by rw [List.length_map]; omega
    rw [en]
    have inv : ∀ n : Nat, n ≤ r.length → ((List.range n).map fun k => p.getD k 0 * j % r.getD k 0).length = n := fun n _ => by simp
    refine lc_range (lo := 0) (n := r.length) (fun i H2 => Same H H2 ∧ H2 D = some (.lst (((List.range i).map fun k => p.getD k 0 * j % r.getD k 0).map V.int))) ⟨same_upd hD, upd_same⟩ ?_ ?_
    · rintro i H2 hi ⟨s2, h2⟩
      have g := r14_get h14 hi
      have e0 : (0 : Int) + (i : Int) = (i : Int) := Int.zero_add _
      refine ⟨rfl, _, rfl, _, rfl, b, _, _, _, rfl, rfl, s2.tup hb, by rw [e0]; exact atI_nat (getD_of (by omega)), _, rfl, _, _, rfl, rfl, Or.inr ⟨by omega, by omega⟩, _, rfl, _, rfl, a, _, _, _, rfl, rfl, s2.tup ha, by rw [e0]; exact atI_nat (getD_of hi), _, _, rfl, rfl, by omega, ?_⟩
      refine ⟨_, h2, sl_lt (by rw [List.length_map, List.length_map, List.length_range]; omega), same_at s2 hD, ?_⟩
      rw [upd_same, List.range_succ, List.map_append, List.map_append]
      rfl
    · rintro H2 ⟨s2, h2⟩
      refine ⟨D, _, rfl, .inl ⟨SqL.of h2, fun t ht => ?_⟩⟩
      exact k t _ (same_new s2 ht) (s2.free ht) upd_same
end
end K18

namespace K18
open PySem PySem.Spec PyProof.Rows L2
section
variable {P : Program} {w : World} {K : PySem.W.Frag} {mg : Str → Option Value} {base : Heap} {f : Addr} {fd : FuncData}
/-! ### paired -/
def spPaired (K : PySem.W.Frag) : Sp := fun vs H Q _ => ∃ (v u z : V) (r p l : List Int) (e : Int), vs = [v, .int e, u, z] ∧ TupI K H v r ∧ TupI K H u p ∧ TupI K H z l ∧ r ∈ R14 ∧ p.length = r.length ∧ l.length = r.length ∧ (∀ x ∈ p, 0 ≤ x ∧ x < 60) ∧ (∀ x ∈ l, 0 ≤ x ∧ x < 60) ∧ 1 ≤ e ∧ e ≤ 60 ∧ Q (.int (pairL r e p l)) H
theorem scPaired : FnScope ["rings", "order", "place", "label", "total", "k"] ["rings", "order", "place", "label"] (defScope sPaired) := ⟨rfl, rfl, rfl, by decide +kernel, rfl, by decide +kernel, by decide +kernel⟩
theorem ok_paired (F : FnP K "paired" sPaired f fd) (B : Bl mg) : FnOk P w K mg base CX0 1 f fd ["rings", "order", "place", "label"] (spPaired K) := by
  refine F.ok scPaired (fun vs H Q E h => ?_) (fun cdv A outer s H vs Q E hr h => ?_)
  · obtain ⟨v, u, z, r, p, l, e, rfl, _⟩ := h
    rfl
  · obtain ⟨v, u, z, r, p, l, e, rfl, ⟨a, rfl, ha⟩, ⟨b, rfl, hb⟩, ⟨c, rfl, hc⟩, h14, hp, hl, bp, bl, e1, e2, k⟩ := h
    refine ⟨_, PSs.nox (pss_cons (ps_set (i := 4) scPaired.nd rfl (Or.inl rfl) pe_int)
      (pss_cons (ps_for PassesOwn.never rfl (pi_range1 rfl (B "range" (by decide +kernel)) (pa_cons (pe_callB call_len_seq (by rfl) (B "len" (by decide +kernel)) PySem.boot_len (pa_cons (pv 0) pa_nil)) pa_nil)) (pg_name (i := 5) scPaired.nd rfl (Or.inl rfl))
        (pss_one (ps_aug (i := 4) scPaired.nd rfl (Or.inl rfl) (pe_op op_mul (pe_op op_mul (pe_ix ix_tup (pv 2) (pv 5) (fun _ _ => rfl)) (pe_ix ix_tup (pv 3) (pv 5) (fun _ _ => rfl))) (pe_op op_fdiv (pv 1) (pe_ix ix_tup (pv 0) (pv 5) (fun _ _ => rfl)))) ip_add)))
      (pss_one (ps_ret (pe_op op_mod (pv 4) (pv 1)))))), ?_⟩
    have hn := r14_len r h14
    refine ⟨_, rfl, a, _, rfl, .inr ha, _, rfl, by rw [List.length_map]; omega, by rw [List.length_map]; omega, ?_⟩
    have en : ((r.map V.int).length : Int).toNat = r.length := by rw [List.length_map]; omega
    rw [en]
    refine for_range (lo := 0) (n := r.length) (fun i σ H2 => ∃ u, σ = [some (.ref a), some (.int e), some (.ref b), some (.ref c), some (.int (pairGo r e p l i)), u] ∧ H2 = H) ⟨none, rfl, rfl⟩ ?_ ?_
    · rintro i σ H2 hi ⟨u, rfl, rfl⟩
      have g := r14_get h14 hi
      have e0 : (0 : Int) + (i : Int) = (i : Int) := Int.zero_add _
      have gp : 0 ≤ p.getD i 0 ∧ p.getD i 0 < 60 := by
        rw [List.getD_eq_getElem?_getD, List.getElem?_eq_getElem (by omega : i < p.length)]
        exact bp _ (List.getElem_mem _)
      have gl : 0 ≤ l.getD i 0 ∧ l.getD i 0 < 60 := by
        rw [List.getD_eq_getElem?_getD, List.getElem?_eq_getElem (by omega : i < l.length)]
        exact bl _ (List.getElem_mem _)
      have g1 : 0 ≤ p.getD i 0 * l.getD i 0 := Int.mul_nonneg gp.1 gl.1
      have g2 : p.getD i 0 * l.getD i 0 ≤ 60 * 60 := Int.mul_le_mul (by omega) (by omega) (by omega) (by omega)
      refine ⟨_, rfl, _, rfl, _, rfl, b, _, _, _, rfl, rfl, hb, by rw [e0]; exact atI_nat (getD_of (by omega)), _, rfl, _, rfl, c, _, _, _, rfl, rfl, hc, by rw [e0]; exact atI_nat (getD_of (by omega)), _, _, rfl, rfl, Or.inl ⟨by omega, by omega⟩, _, rfl, _, rfl, _, rfl, a, _, _, _, rfl, rfl, ha, by rw [e0]; exact atI_nat (getD_of hi), _, _, rfl, rfl, ⟨by omega, by omega⟩, _, _, rfl, rfl, Or.inl ⟨by omega, by omega⟩, ?_⟩
      exact ⟨_, _, rfl, rfl, _, rfl, rfl⟩
    · rintro σ H2 ⟨u, rfl, rfl⟩
      exact ⟨_, rfl, _, rfl, _, _, rfl, rfl, by omega, k⟩
/-! ### primes_of -/
def spPrimes : Sp := fun vs H Q _ => ∃ e : Int, vs = [.int e] ∧ 1 ≤ e ∧ e ≤ 60 ∧ ∀ p H', Same H H' → H p = none → H' p = some (.lst ((primesL e).map V.int)) → Q (.ref p) H'
theorem scPrimes : FnScope ["number", "primes", "k", "prime"] ["number"] (defScope sPrimes) := ⟨rfl, rfl, rfl, by decide +kernel, rfl, by decide +kernel, by decide +kernel⟩
theorem primesGo_pos (n : Int) : ∀ i, ∀ p ∈ primesGo n i, 2 ≤ p
  | 0, p, h => absurd h (by simp [primesGo])
  | i + 1, p, h => by
    unfold primesGo at h
    split at h
    · rcases List.mem_append.mp h with z | z
      · exact primesGo_pos n i p z
      · have e := List.mem_singleton.mp z
        omega
    · exact primesGo_pos n i p h
theorem primesGo_len (n : Int) : ∀ i, (primesGo n i).length ≤ i
  | 0 => by simp [primesGo]
  | i + 1 => by
    have h := primesGo_len n i
    unfold primesGo
    split
    · rw [List.length_append]
      simp
      omega
    · omega
theorem neII {a b : Int} : (!decide (V.int a = V.int b)) = (!decide (a = b)) := by
  congr 1
  by_cases h : a = b
  · rw [h]
    simp
  · rw [decide_eq_false h, decide_eq_false (fun z => h (V.int.inj z))]
theorem ok_primes (F : FnP K "primes_of" sPrimes f fd) (B : Bl mg) : FnOk P w K mg base CX0 1 f fd ["number"] spPrimes := by
  refine F.ok scPrimes (fun vs H Q E h => ?_) (fun cdv A outer s H vs Q E hr h => ?_)
  · obtain ⟨e, rfl, _⟩ := h
    rfl
  · obtain ⟨e, rfl, h1, h2, k⟩ := h
    refine ⟨_, PSs.nox (pss_cons (ps_set (i := 1) scPrimes.nd rfl (Or.inl rfl) (pe_lst pa_nil))
      (pss_cons (ps_for PassesOwn.never rfl (pi_range2 rfl (B "range" (by decide +kernel)) (pa_cons pe_int (pa_cons (pe_op op_add (pv 0) pe_int) pa_nil))) (pg_name (i := 2) scPrimes.nd rfl (Or.inr rfl))
        (pss_one (ps_if (PW.pt (pw_and (pt_cmpR op_eq (pe_op op_mod (pv 0) (pv 2)) pe_int (nomark _)) (pw_and1 (pt_val (pe_callB (cr_all rfl) (by rfl) (B "all" (by decide +kernel)) (by decide +kernel) (pa_cons
            (pe_lc (own := [("prime", 3)]) (g := gName 3) (tt := tYes) (te := tOp rNe (tOp rMod (tVar 2) (tVar 3)) (tC (.int 0))) rfl scPrimes.nd (pi_list (pv 1)) (blkOk_by (own := [("prime", 3)]) (N := ["number", "primes", "k", "prime"]) (sc := defScope sPrimes) (by decide +kernel)) (fun _ _ _ _ _ => pg_name (i := 3) scPrimes.nd rfl (Or.inl rfl)) (fun _ _ _ _ _ => pts_nil) (fun _ _ _ _ _ => pe_cmpR op_ne (pe_op op_mod (pv 2) (pv 3)) pe_int (nomark _))) pa_nil))))))
          (pss_one (ps_expr (pe_bm PySem.F.plainAttrs_list PySem.F.slot_list_append PySem.F.type_list_append mt_append (pv 1) (pa_cons (pv 2) pa_nil)))) pss_nil)))
      (pss_one (ps_ret (pv 1))))), ?_⟩
    refine ⟨by decide, fun L hL => ?_⟩
    refine ⟨_, rfl, _, _, rfl, rfl, 2, e + 1, rfl, ⟨by omega, by omega, by omega, by omega⟩, ?_⟩
    refine for_range (lo := 2) (n := (e + 1 - 2).toNat) (fun i σ H2 => ∃ u, σ = [some (.int e), some (.ref L), u, none] ∧ Same H H2 ∧ H2 L = some (.lst ((primesGo e i).map V.int))) ⟨none, rfl, same_upd hL, upd_same⟩ ?_ ?_
    · rintro i σ H2 hi ⟨u, rfl, s2, h2'⟩
      refine ⟨_, rfl, _, rfl, _, _, rfl, rfl, by omega, rfl, _, rfl, ?_⟩
      have pl := primesGo_len e i
      refine ite2 (fun c => ?_) (fun c => ?_)
      · have c1 := eqI c
        refine ⟨_, rfl, L, rfl, ⟨_, SqL.of h2'⟩, fun D hD => ?_⟩
        refine lc_list (K := K) (a := L) (xs := (primesGo e i).map V.int) (fun m H3 => Same H2 H3 ∧ H3 D = some (.lst ((((primesGo e i).take m).map fun p => !decide ((2 + (i : Int)) % p = 0)).map V.bl))) ⟨same_upd hD, upd_same⟩ (fun m H3 _ ⟨s3, _⟩ => SqL.of (s3 _ _ h2')) ?_ ?_
        · rintro m y H3 hm ⟨s3, h3⟩
          obtain ⟨p, rfl, hp⟩ := getI hm
          have hp2 := primesGo_pos e i p (List.mem_of_getElem? hp)
          refine ⟨rfl, _, rfl, _, rfl, _, _, rfl, rfl, by omega, rfl, ?_⟩
          refine ⟨_, h3, sl_lt (by rw [List.length_map, List.length_map]; exact Nat.le_trans (List.length_take_le' _ _) (by omega)), same_at s3 hD, ?_⟩
          rw [upd_same, takeS hp, List.map_append, List.map_append, neII]
          rfl
        · rintro H3 ⟨s3, h3⟩
          rw [List.length_map, List.take_length] at h3
          refine ⟨D, _, rfl, SqL.of h3, _, rfl, ?_⟩
          refine ite2 (fun c2 => ?_) (fun c2 => ?_)
          · refine ⟨_, rfl, Or.inl ⟨rfl, _, SqL.of (s3 _ _ h2')⟩, _, rfl, L, _, _, rfl, rfl, s3 _ _ h2', sl_lt (by rw [List.length_map]; omega), ?_⟩
            refine ⟨_, rfl, same_at (s2.trans s3) hL, ?_⟩
            rw [upd_same]
            have e1 : primesGo e (i + 1) = primesGo e i ++ [2 + (i : Int)] := by
              show (if _ then _ else _) = _
              rw [if_pos]
              rw [Bool.and_eq_true]
              exact ⟨decide_eq_true c1, c2⟩
            rw [e1, List.map_append]
            rfl
          · refine ⟨_, rfl, s2.trans s3, ?_⟩
            have e1 : primesGo e (i + 1) = primesGo e i := by
              show (if _ then _ else _) = _
              rw [if_neg]
              rw [Bool.and_eq_true]
              exact fun z => c2 z.2
            rw [e1]
            exact s3 _ _ h2'
      · have c1 := neI c
        refine iteF ?_
        refine ⟨_, rfl, s2, ?_⟩
        have e1 : primesGo e (i + 1) = primesGo e i := by
          show (if _ then _ else _) = _
          rw [if_neg]
          rw [Bool.and_eq_true]
          exact fun z => c1 (of_decide_eq_true z.1)
        rw [e1]
        exact h2'
    · rintro σ H2 ⟨u, rfl, s2, h2'⟩
      exact ⟨_, rfl, k L H2 s2 hL h2'⟩
end
end K18

namespace K18
open PySem PySem.Spec PyProof.Rows L2
/-- a walk of a list, the turn left open -/
theorem out_list {K : PySem.W.Frag} {a : Addr} {xs : List V} {H0 : Hp} {Qd : Hp → Prop} {body : (Hp → Prop) → V → Hp → Prop} (Pv : Nat → Hp → Prop) (h0 : Pv 0 H0) (hl : ∀ i H, i ≤ xs.length → Pv i H → SqL K H a xs)
    (hs : ∀ i x H, xs[i]? = some x → Pv i H → body (Pv (i + 1)) x H) (hd : ∀ H, Pv xs.length H → Qd H) :
    ∃ W : Nat → Nat → Hp → Prop, (∃ m, W 0 m H0) ∧ ∀ i m H, W i m H →
      ((Itl K a).stop i H ∧ Qd H) ∨ ((Itl K a).go i H ∧ ∃ Nx : Hp → Prop, (∀ H', Nx H' → ∃ m', m' < m ∧ W (i + 1) m' H') ∧ ∀ x H', (Itl K a).yld i H x H' → body Nx x H') := by
  refine ⟨fun i m H => m = xs.length - i ∧ i ≤ xs.length ∧ Pv i H, ⟨xs.length, by simp, Nat.zero_le _, h0⟩, ?_⟩
  rintro i m H ⟨rfl, hi, p⟩
  have q := hl i H hi p
  by_cases hlt : i < xs.length
  · refine .inr ⟨⟨xs, xs[i], q, by simp [hlt]⟩, Pv (i + 1), fun H' p' => ⟨xs.length - (i + 1), by omega, rfl, hlt, p'⟩, fun x H' y => ?_⟩
    obtain ⟨e, y⟩ := y
    subst e
    exact hs i x _ (y xs q) p
  · have e : i = xs.length := by omega
    subst e
    exact .inl ⟨⟨xs, q, Nat.le_refl _⟩, hd H p⟩
/-- a walk of a range, the turn left open -/
theorem out_range {lo : Int} {n : Nat} {H0 : Hp} {Qd : Hp → Prop} {body : (Hp → Prop) → V → Hp → Prop} (Pv : Nat → Hp → Prop) (h0 : Pv 0 H0)
    (hs : ∀ i H, i < n → Pv i H → body (Pv (i + 1)) (.int (lo + (i : Int))) H) (hd : ∀ H, Pv n H → Qd H) :
    ∃ W : Nat → Nat → Hp → Prop, (∃ m, W 0 m H0) ∧ ∀ i m H, W i m H →
      ((Itr lo n).stop i H ∧ Qd H) ∨ ((Itr lo n).go i H ∧ ∃ Nx : Hp → Prop, (∀ H', Nx H' → ∃ m', m' < m ∧ W (i + 1) m' H') ∧ ∀ x H', (Itr lo n).yld i H x H' → body Nx x H') := by
  refine ⟨fun i m H => m = n - i ∧ i ≤ n ∧ Pv i H, ⟨n, by simp, Nat.zero_le _, h0⟩, ?_⟩
  rintro i m H ⟨rfl, hi, p⟩
  by_cases hlt : i < n
  · refine .inr ⟨hlt, Pv (i + 1), fun H' p' => ⟨n - (i + 1), by omega, rfl, hlt, p'⟩, fun x H' y => ?_⟩
    obtain ⟨e, y⟩ := y
    subst e y
    exact hs i _ hlt p
  · have e : i = n := by omega
    subst e
    exact .inl ⟨Nat.le_refl _, hd H p⟩
theorem plStep_len (ps : List (List Int)) (len : Int) : (plStep ps len).length = ps.length * len.toNat := by
  unfold plStep
  induction ps with
  | nil => simp
  | cons p r ih =>
    rw [List.flatMap_cons, List.length_append, ih, List.length_map, rgL_len, List.length_cons, Nat.succ_mul, Nat.add_comm]
theorem plStep_take {ps : List (List Int)} {len : Int} {i : Nat} {p : List Int} (h : ps[i]? = some p) : plStep (ps.take (i + 1)) len = plStep (ps.take i) len ++ (rgL 0 len.toNat).map fun x => p ++ [x] := by
  rw [takeS h]
  unfold plStep
  rw [List.flatMap_append]
  simp
theorem pl_take {r : List Int} {i : Nat} {x : Int} (h : r[i]? = some x) : placesL (r.take (i + 1)) = plStep (placesL (r.take i)) x := by
  rw [takeS h]
  unfold placesL
  rw [List.foldl_append]
  rfl
theorem r14_pl : ∀ r ∈ R14, ∀ i ∈ List.range (r.length + 1), (placesL (r.take i)).length ≤ 60 := by decide +kernel
theorem r14_plen : ∀ r ∈ R14, ∀ i ∈ List.range (r.length + 1), ∀ p ∈ placesL (r.take i), p.length = i := by decide +kernel
theorem rf_snoc {ks : List (Addr × List Int)} {p : Addr} {ns : List Int} : rf (ks ++ [(p, ns)]) = rf ks ++ [V.ref p] := by simp [rf]
theorem map_get {ks : List (Addr × List Int)} {ps : List (List Int)} {i : Nat} {q : Addr × List Int} (h : ks.map (·.2) = ps) (e : ks[i]? = some q) : ps[i]? = some q.2 := by
  rw [← h, List.getElem?_map, e]
  rfl
section
variable {P : Program} {w : World} {K : PySem.W.Frag} {mg : Str → Option Value} {base : Heap} {f : Addr} {fd : FuncData}
def spPlaces (K : PySem.W.Frag) : Sp := fun vs H Q _ => ∃ (v : V) (r : List Int), vs = [v] ∧ TupI K H v r ∧ r ∈ R14 ∧ ∀ p H', Same H H' → H p = none → PlL K H' p (placesL r) → Q (.ref p) H'
theorem scPlaces : FnScope ["rings", "places", "length", "place", "item"] ["rings"] (defScope sPlaces) := ⟨rfl, rfl, rfl, by decide +kernel, rfl, by decide +kernel, by decide +kernel⟩
theorem ok_places (F : FnP K "list_places" sPlaces f fd) (B : Bl mg) : FnOk P w K mg base CX0 1 f fd ["rings"] (spPlaces K) := by
  refine F.ok scPlaces (fun vs H Q E h => ?_) (fun cdv A outer s H vs Q E hr h => ?_)
  · obtain ⟨v, r, rfl, _⟩ := h
    rfl
  · obtain ⟨v, r, rfl, ⟨a, rfl, ha⟩, h14, k⟩ := h
    refine ⟨_, PSs.nox (pss_cons (ps_set (i := 1) scPlaces.nd rfl (Or.inl rfl) (pe_lst (pa_cons (pe_tup pa_nil) pa_nil)))
      (pss_cons (ps_for PassesOwn.never rfl (pi_tup (pv 0)) (pg_name (i := 2) scPlaces.nd rfl (Or.inr rfl))
        (pss_one (ps_setLc2 (i := 1) (own := [("place", 3), ("item", 4)]) (vs1 := [4]) (g := gName 3) (tt := tYes) (wi1 := iRng1 (tCons (tVar 2) tNil)) (g1 := gName 4) (tt1 := tYes) (te := tTup (StX.tStar K (tVar 3) (tCons (tVar 4) tNil))) rfl scPlaces.nd rfl rfl (sw_true rfl rfl rfl (by decide +kernel)) (pi_list (pv 1))
          (blkOk_by (own := [("place", 3), ("item", 4)]) (N := ["rings", "places", "length", "place", "item"]) (sc := defScope sPlaces) (by decide +kernel)) (by decide)
          (fun _ _ _ _ _ => pg_name (i := 3) scPlaces.nd rfl (Or.inl rfl)) (fun _ _ _ _ _ => pts_nil)
          (fun _ _ _ _ _ => pi_range1 rfl (B "range" (by decide +kernel)) (pa_cons (pv 2) pa_nil)) (fun _ _ _ _ _ => pg_name (i := 4) scPlaces.nd rfl (Or.inl rfl)) (fun _ _ _ _ _ => pts_nil)
          (fun _ _ _ _ _ => pe_tup (StX.pa_star (pv 3) (pa_cons (pv 4) pa_nil))))))
      (pss_one (ps_ret (pv 1))))), ?_⟩
    refine ⟨by decide, fun t ht => ⟨by show 1 ≤ sizeLine; decide, fun L hL => ?_⟩⟩
    have s0 : Same H (upd (upd H t (.tup [])) L (.lst [.ref t])) := same_new (same_upd ht) hL
    have nL : H L = none := (same_upd (o := HO.tup []) ht).free hL
    refine ⟨_, rfl, a, rfl, ⟨_, s0.tup ha⟩, for_tup (K := K) (a := a) (xs := r.map V.int) (fun i σ H2 => ∃ (l : Addr) (u : Option V), σ = [some (.ref a), some (.ref l), u, none, none] ∧ H l = none ∧ Same H H2 ∧ PlL K H2 l (placesL (r.take i)))
      ⟨L, none, rfl, nL, s0, [(t, [])], upd_same, rfl, fun p hp => by rw [List.mem_singleton.mp hp]; exact (same_upd hL).tup (SqT.of upd_same)⟩ (fun i σ H2 _ ⟨_, _, _, _, s2, _⟩ => s2.tup ha) ?_ ?_⟩
    · rintro i y σ H2 hi ⟨l, u, rfl, nl, s2, ks, hk, em, tk⟩
      obtain ⟨c, rfl, hc⟩ := getI hi
      have hb := r14_pos r h14 c (List.mem_of_getElem? hc)
      have hlt := ltL hc
      have l1 := r14_pl r h14 i (List.mem_range.mpr (by omega))
      have l2 := r14_pl r h14 (i + 1) (List.mem_range.mpr (by omega))
      rw [pl_take hc] at l2
      refine ⟨_, rfl, l, rfl, ⟨_, SqL.of hk⟩, fun D hD => ?_⟩
      have nD : H D = none := s2.free hD
      refine out_list (K := K) (a := l) (xs := rf ks) (fun m H3 => Same H2 H3 ∧ PlL K H3 D (plStep ((placesL (r.take i)).take m) c)) ⟨same_upd hD, [], upd_same, rfl, tl_nil⟩ (fun m H3 _ ⟨s3, _⟩ => SqL.of (s3 _ _ hk)) ?_ ?_
      · rintro m y H3 hm ⟨s3, P3⟩
        obtain ⟨q, rfl, hq⟩ := getR hm
        have hq2 := map_get em hq
        have hq2' : ((placesL (r.take i))[m]? = some q.2) := hq2
        refine ⟨rfl, _, rfl, c, rfl, by omega, by omega, ?_⟩
        refine out_range (lo := 0) (n := c.toNat) (fun j H4 => Same H2 H4 ∧ PlL K H4 D (plStep ((placesL (r.take i)).take m) c ++ (rgL 0 j).map fun x => q.2 ++ [x])) ⟨s3, by simpa [rgL] using P3⟩ ?_ ?_
        · rintro j H4 hj ⟨s4, ks4, h4, e4, t4⟩
          refine ⟨rfl, _, rfl, q.1, _, rfl, .inl (s4.tup (tk q (List.mem_of_getElem? hq))), _, rfl, ?_, fun p hp => ?_⟩
          · have z := r14_len r h14
            have z1 : q.2.length = i := r14_plen r h14 i (List.mem_range.mpr (by omega)) _ (List.mem_of_getElem? hq2)
            rw [List.length_append, List.length_map]
            exact sl_1000 (by simp; omega)
          · have e5 : ks4.length ≤ 3700 := by
              have z := congrArg List.length e4
              rw [List.length_map, List.length_append, plStep_len, List.length_map, rgL_len] at z
              have z2 : ((placesL (r.take i)).take m).length ≤ 60 := Nat.le_trans (List.length_take_le' _ _) l1
              have z3 : ((placesL (r.take i)).take m).length * c.toNat ≤ 60 * 60 := Nat.mul_le_mul z2 (by omega)
              omega
            have h4p : upd H4 p (.tup (q.2.map V.int ++ [.int (0 + (j : Int))])) D = some (.lst (rf ks4)) := by rw [upd_ne (ne_of_none h4 hp)]; exact h4
            refine ⟨_, h4p, sl_lt (by rw [List.length_map]; omega), same_at (same_new s4 hp) hD, ks4 ++ [(p, q.2 ++ [0 + (j : Int)])], ?_, ?_, ?_⟩
            · rw [upd_same, rf_snoc]
            · rw [List.map_append, e4, rgL_succ, List.map_append, List.append_assoc]
              rfl
            · have sp : Same H4 (upd H4 p (.tup (q.2.map V.int ++ [.int (0 + (j : Int))]))) := same_upd hp
              have tl1 : TL K (upd H4 p (.tup (q.2.map V.int ++ [.int (0 + (j : Int))]))) (ks4 ++ [(p, q.2 ++ [0 + (j : Int)])]) := tl_snoc (sp.tl t4) (SqT.of (by rw [upd_same, List.map_append]; rfl))
              exact tl_at tl1 h4p
        · rintro H4 ⟨s4, P4⟩
          refine ⟨s4, ?_⟩
          rw [plStep_take hq2]
          exact P4
      · rintro H3 ⟨s3, P3⟩
        refine ⟨D, _, rfl, nD, s2.trans s3, ?_⟩
        have e6 : (rf ks).length = (placesL (r.take i)).length := by rw [← em, List.length_map, List.length_map]
        rw [e6, List.take_length] at P3
        rw [pl_take hc]
        exact P3
    · rintro σ H2 ⟨l, u, rfl, nl, s2, P2⟩
      rw [List.length_map, List.take_length] at P2
      exact ⟨_, rfl, k l H2 s2 nl P2⟩
end
end K18

namespace K18
open PySem PySem.Spec PyProof.Rows L2
section
variable {P : Program} {w : World} {K : PySem.W.Frag} {mg : Str → Option Value} {base : Heap} {f : Addr} {fd : FuncData}
/-! ### _stretched -/
def spStr (K : PySem.W.Frag) : Sp := fun vs H Q _ => ∃ (a : Addr) (xs : List Int) (b : Nat), vs = [.ref a, .int (b : Int)] ∧ SqL K H a (xs.map V.int) ∧ 1 ≤ xs.length ∧ xs.length ≤ 100 ∧ 1 ≤ b ∧ b ≤ 100 ∧ ∀ p H', Same H H' → H p = none → H' p = some (.lst ((strL xs b).map V.int)) → Q (.ref p) H'
theorem scStr : FnScope ["items", "by", "stretched", "k", "item"] ["items", "by"] (defScope sStr) := ⟨rfl, rfl, rfl, by decide +kernel, rfl, by decide +kernel, by decide +kernel⟩
theorem strN_len (xs : List Int) (b : Nat) : ∀ i, (strN xs b i).length = (xs.length - 1) * b + 1
  | 0 => by simp [strN]
  | i + 1 => by
    unfold strN
    rw [List.length_set]
    exact strN_len xs b i
theorem ixN_nat {n j : Nat} (h : j < n) : ixN n (j : Int) = some j := by
  unfold ixN
  rw [if_pos (by omega), if_pos (by omega)]
  simp
theorem rep_flat (n : Nat) (x : V) : (List.replicate n [x]).flatten = List.replicate n x := by
  induction n with
  | zero => rfl
  | succ n ih => rw [List.replicate_succ, List.flatten_cons, ih, List.replicate_succ]; rfl
theorem ok_str (F : FnP K "_stretched" sStr f fd) (B : Bl mg) : FnOk P w K mg base CX0 1 f fd ["items", "by"] (spStr K) := by
  refine F.ok scStr (fun vs H Q E h => ?_) (fun cdv A outer s H vs Q E hr h => ?_)
  · obtain ⟨a, xs, b, rfl, _⟩ := h
    rfl
  · obtain ⟨a, xs, b, rfl, hS, l1, l2, b1, b2, k⟩ := h
    refine ⟨_, PSs.nox (pss_cons (ps_set (i := 2) scStr.nd rfl (Or.inl rfl) (pe_op op_rep (pe_lst (pa_cons pe_int pa_nil)) (pe_op op_add (pe_op op_mul (pe_op op_sub (pe_callB call_len_seq (by rfl) (B "len" (by decide +kernel)) PySem.boot_len (pa_cons (pv 0) pa_nil)) pe_int) (pv 1)) pe_int)))
      (pss_cons (ps_for PassesOwn.never rfl (pi_enum (by rfl) (B "enumerate" (by decide +kernel)) (pa_cons (pv 0) pa_nil)) (pg_tup rfl (pgs_cons (pg_name (i := 3) scStr.nd rfl (Or.inl rfl)) (pgs_cons (pg_name (i := 4) scStr.nd rfl (Or.inl rfl)) pgs_nil)))
        (pss_one (ps_asg (pv 4) (pg_sub (pv 2) (pe_op op_mul (pv 3) (pv 1)) set_list))))
      (pss_one (ps_ret (pv 2))))), ?_⟩
    refine ⟨by show 1 ≤ sizeLine; decide, fun z hz => ?_⟩
    have sz : Same H (upd H z (.lst [.int 0])) := same_upd hz
    have em : ((((xs.map V.int).length : Int) - 1) * (b : Int) + 1) = (((xs.length - 1) * b + 1 : Nat) : Int) := by
      rw [List.length_map]
      have e1 : ((xs.length : Int) - 1) = ((xs.length - 1 : Nat) : Int) := by omega
      rw [e1]
      push_cast
      rfl
    have hb : (xs.length - 1) * b ≤ 99 * 100 := Nat.mul_le_mul (by omega) b2
    refine ⟨_, rfl, a, _, rfl, .inl (sz.seq hS), _, _, rfl, rfl, _, rfl, _, _, rfl, rfl, Or.inl ⟨by rw [List.length_map]; omega, by rw [List.length_map]; omega⟩, _, _, rfl, rfl, z, _, _, rfl, rfl, upd_same, ?_⟩
    rw [em]
    refine ⟨by omega, by omega, ?_, fun D hD => ?_⟩
    · rw [Int.toNat_natCast]
      exact sl_1000 (by simp; omega)
    rw [Int.toNat_natCast, rep_flat]
    have nD : H D = none := sz.free hD
    have s1 : Same H (upd (upd H z (.lst [.int 0])) D (.lst (List.replicate ((xs.length - 1) * b + 1) (V.int 0)))) := same_new sz hD
    refine ⟨_, rfl, a, xs.map V.int, rfl, s1.seq hS, ?_⟩
    refine for_it (walk_enum (K := K) (a := a) (xs := xs.map V.int)) (fun i σ H2 => ∃ u v, σ = [some (.ref a), some (.int (b : Int)), some (.ref D), u, v] ∧ Same H H2 ∧ H2 D = some (.lst ((strN xs b i).map V.int))) ⟨none, none, rfl, s1, ?_⟩ (fun i σ H2 _ ⟨_, _, _, s2, _⟩ => s2.seq hS) ?_ ?_
    · rw [upd_same]
      simp [strN]
    · rintro i x σ H2 H3 hi ⟨u, v, rfl, s2, h2⟩ ⟨T, c, y, rfl, hT, rfl, ec, ey⟩
      obtain ⟨x, rfl, hx⟩ := getI ey
      obtain rfl := Option.some.inj ec
      rw [List.length_map] at hi
      have h3 : upd H2 T (.tup [.int (i : Int), .int x]) D = some (.lst ((strN xs b i).map V.int)) := by rw [upd_ne (ne_of_none h2 hT)]; exact h2
      have s3 : Same H (upd H2 T (.tup [.int (i : Int), .int x])) := same_new s2 hT
      refine ⟨T, _, rfl, SqT.of upd_same, rfl, _, _, rfl, _, _, rfl, rfl, ?_⟩
      have hib : i * b ≤ (xs.length - 1) * b := Nat.mul_le_mul (by omega) (Nat.le_refl _)
      have ee : (i : Int) * (b : Int) = ((i * b : Nat) : Int) := by push_cast; rfl
      refine ⟨_, rfl, _, rfl, _, rfl, _, rfl, _, _, rfl, rfl, Or.inl ⟨by omega, by omega⟩, D, _, _, i * b, rfl, rfl, h3, ?_, _, _, rfl, same_at s3 nD, ?_⟩
      · rw [ee, List.length_map, strN_len]
        exact ixN_nat (by omega)
      · rw [upd_same]
        have e4 : strN xs b (i + 1) = (strN xs b i).set (i * b) (xs.getD i 0) := rfl
        have e5 : xs.getD i 0 = x := by rw [List.getD_eq_getElem?_getD, hx]; rfl
        rw [e4, e5, List.map_set]
    · rintro σ H2 ⟨u, v, rfl, s2, h2⟩
      rw [List.length_map] at h2
      exact ⟨_, rfl, k D H2 s2 nD h2⟩
end
end K18

namespace K18
open PySem PySem.Spec PyProof.Rows L2
section
variable {X : Cx}
def rGetN (K : PySem.W.Frag) : V → V → Hp → VK → Prop := fun x y H Q => ∃ (p : Addr) (xs : List V) (j : Nat) (v : V), x = .ref p ∧ y = .int (j : Int) ∧ SqL K H p xs ∧ xs[j]? = some v ∧ Q v H
theorem get_list : PGet X (rGetN X.K) := by
  intro pins s σ H o i ov iv Q I r1 r2 h
  obtain ⟨p, xs, j, v, rfl, rfl, hq, he, q⟩ := h
  cases r1
  obtain ⟨t, rfl⟩ := r2
  obtain ⟨its, r, pl, hz⟩ := I.list hq
  obtain ⟨w, ew, rw'⟩ := r.get he
  have hj := ltL he
  have hn := line63
  exact wpAny_getItem_list pl.isList (by omega) (by omega) (by rw [Int.toNat_natCast]; simpa using ew) ⟨v, H, I, rw', q⟩
end
theorem subN_len (h : Int) (dv : List Int) (a : Nat) (r : List Int) : ∀ k, (subN h dv a r k).length = r.length
  | 0 => rfl
  | k + 1 => by
    unfold subN
    rw [List.length_set]
    exact subN_len h dv a r k
section
variable {P : Program} {w : World} {K : PySem.W.Frag} {mg : Str → Option Value} {base : Heap} {f : Addr} {fd : FuncData}
/-- a list or a tuple of ints -/
def SqI (K : PySem.W.Frag) (H : Hp) (a : Addr) (ns : List Int) : Prop := SqL K H a (ns.map V.int) ∨ SqT K H a (ns.map V.int)
theorem _root_.L2.Same.sqi {K : PySem.W.Frag} {H H' : Hp} {a : Addr} {ns : List Int} (e : Same H H') (h : SqI K H a ns) : SqI K H' a ns := h.imp (fun z => e.seq z) (fun z => e.tup z)
def spDiv (K : PySem.W.Frag) : Sp := fun vs H Q _ => ∃ (a b : Addr) (xs dv : List Int), vs = [.ref a, .ref b] ∧ SqL K H a (xs.map V.int) ∧ SqI K H b dv ∧ 1 ≤ dv.length ∧ dv.length ≤ 1000 ∧ xs.length ≤ 10000 ∧ (∀ d ∈ dv, -1000 ≤ d ∧ d ≤ 1000) ∧
  ∀ t q r H', Same H H' → H t = none → H q = none → H r = none → H' t = some (.tup [.ref q, .ref r]) → H' q = some (.lst ((divL xs dv).1.map V.int)) → H' r = some (.lst ((divL xs dv).2.map V.int)) → Q (.ref t) H'
theorem scDiv : FnScope ["items", "divisor", "degree", "rest", "quotient", "highest", "at", "k"] ["items", "divisor"] (defScope sDiv) := ⟨rfl, rfl, rfl, by decide +kernel, rfl, by decide +kernel, by decide +kernel⟩
theorem lastD {l : List Int} (h : 0 < l.length) : (l.map V.int)[(l.map V.int).length - 1]? = some (V.int (l.getLastD 0)) := by
  refine ofI ?_
  rw [List.length_map, List.getElem?_eq_getElem (by omega)]
  congr 1
  cases l with
  | nil => simp at h
  | cons x r => simp [List.getLastD, List.getLast_eq_getElem]
theorem ok_div (F : FnP K "_divided" sDiv f fd) (B : Bl mg) : FnOk P w K mg base CX0 1 f fd ["items", "divisor"] (spDiv K) := by
  refine F.ok scDiv (fun vs H Q E h => ?_) (fun cdv A outer s H vs Q E hr h => ?_)
  · obtain ⟨a, b, xs, dv, rfl, _⟩ := h
    rfl
  · obtain ⟨a, b, xs, dv, rfl, hS, hD, d1, d2, x1, db, k⟩ := h
    refine ⟨_, PSs.nox (pss_cons (ps_set (i := 2) scDiv.nd rfl (Or.inl rfl) (pe_op op_sub (pe_callB call_len_seq (by rfl) (B "len" (by decide +kernel)) PySem.boot_len (pa_cons (pv 1) pa_nil)) pe_int))
      (pss_cons (ps_set (i := 3) scDiv.nd rfl (Or.inl rfl) (pe_callTy call_list_of (by rfl) (B "list" (by decide +kernel)) (by decide +kernel) (pa_cons (pv 0) pa_nil)))
      (pss_cons (ps_set (i := 4) scDiv.nd rfl (Or.inl rfl) (pe_lst pa_nil))
      (pss_cons (ps_while PassesOwn.never (pt_cmpR op_gt (pe_callB call_len_seq (by rfl) (B "len" (by decide +kernel)) PySem.boot_len (pa_cons (pv 3) pa_nil)) (pv 2) (nomark _))
        (pss_cons (ps_set (i := 5) scDiv.nd rfl (Or.inl rfl) (pe_bm0 PySem.F.plainAttrs_list PySem.F.slot_list_pop PySem.F.type_list_pop mt_pop (pv 3)))
        (pss_cons (ps_expr (pe_bm PySem.F.plainAttrs_list PySem.F.slot_list_append PySem.F.type_list_append mt_append (pv 4) (pa_cons (pv 5) pa_nil)))
        (pss_cons (ps_set (i := 6) scDiv.nd rfl (Or.inl rfl) (pe_op op_sub (pe_callB call_len_seq (by rfl) (B "len" (by decide +kernel)) PySem.boot_len (pa_cons (pv 3) pa_nil)) (pv 2)))
        (pss_one (ps_for PassesOwn.never rfl (pi_range1 rfl (B "range" (by decide +kernel)) (pa_cons (pv 2) pa_nil)) (pg_name (i := 7) scDiv.nd rfl (Or.inl rfl))
          (pss_one (ps_augS (pv 3) (pe_op op_add (pv 6) (pv 7)) get_list (pe_op op_mul (pv 5) (pe_ix (IxR.or ix_list ix_tup) (pv 1) (pv 7) (fun _ _ => rfl))) ip_sub set_list))))))))
      (pss_one (ps_ret (pe_tup (pa_cons (pe_revL (pv 4)) (pa_cons (pv 3) pa_nil))))))))), ?_⟩
    have hbL : ∀ H2 : Hp, Same H H2 → SqL K H2 b (dv.map V.int) ∨ SqT K H2 b (dv.map V.int) := fun H2 e => e.sqi hD
    refine ⟨_, rfl, b, _, rfl, hbL H (Same.refl _), _, _, rfl, rfl, _, rfl, a, _, rfl, .inl hS, fun R hR => ⟨by decide, fun L hL => ?_⟩⟩
    have eg : ((dv.map V.int).length : Int) - 1 = ((dv.length - 1 : Nat) : Int) := by rw [List.length_map]; omega
    have sR : Same H (upd H R (.lst (xs.map V.int))) := same_upd hR
    have nL : H L = none := sR.free hL
    have hRL : R ≠ L := ne_of_none upd_same hL
    refine while_by (fun σ H2 => ∃ (r q : List Int) (u5 u6 u7 : Option V), σ = [some (.ref a), some (.ref b), some (.int (((dv.map V.int).length : Int) - 1)), some (.ref R), some (.ref L), u5, u6, u7] ∧ Same H H2 ∧ H2 R = some (.lst (r.map V.int)) ∧ H2 L = some (.lst (q.map V.int)) ∧ r.length + q.length = xs.length ∧
      divGo (dv.length - 1) dv (r.length - (dv.length - 1)) r q = divGo (dv.length - 1) dv (xs.length - (dv.length - 1)) xs []) (fun σ H2 => match H2 R with | some (.lst l) => l.length | _ => 0)
      ⟨xs, [], none, none, none, rfl, same_new sR hL, by rw [upd_ne hRL]; exact upd_same, upd_same, by simp, rfl⟩ ?_ ?_
    · rintro σ H2 ⟨r, q, u5, u6, u7, rfl, s2, h1, h2, hl, hg⟩
      refine ⟨_, rfl, R, _, rfl, .inl (SqL.of h1), _, rfl, _, _, rfl, rfl, _, rfl, ?_⟩
      refine ite2 (fun c => ?_) (fun c => ?_)
      · have c1 : ((dv.map V.int).length : Int) - 1 < ((r.map V.int).length : Int) := of_decide_eq_true c
        rw [eg, List.length_map] at c1
        have c2 : dv.length - 1 < r.length := by omega
        -- highest = rest.pop()
        refine ⟨_, rfl, Or.inl ⟨rfl, _, SqL.of h1⟩, R, _, _, rfl, rfl, h1, lastD (by omega), ?_⟩
        rw [← List.map_dropLast]
        generalize hH3 : upd H2 R (.lst (r.dropLast.map V.int)) = H3
        have p1 : H3 R = some (.lst (r.dropLast.map V.int)) := by rw [← hH3, upd_same]
        have p2 : H3 L = some (.lst (q.map V.int)) := by rw [← hH3, upd_ne hRL.symm]; exact h2
        have s3 : Same H H3 := by rw [← hH3]; exact same_at s2 hR
        -- quotient.append(highest)
        refine ⟨_, rfl, Or.inl ⟨rfl, _, SqL.of p2⟩, _, rfl, L, _, _, rfl, rfl, p2, sl_lt (by rw [List.length_map]; omega), ?_⟩
        generalize hH4 : upd H3 L (.lst (q.map V.int ++ [.int (r.getLastD 0)])) = H4
        have p3 : H4 R = some (.lst (r.dropLast.map V.int)) := by rw [← hH4, upd_ne hRL]; exact p1
        have p4 : H4 L = some (.lst ((q ++ [r.getLastD 0]).map V.int)) := by rw [← hH4, upd_same, List.map_append]; rfl
        have s4 : Same H H4 := by rw [← hH4]; exact same_at s3 nL
        have el : r.dropLast.length = r.length - 1 := List.length_dropLast
        refine ⟨_, rfl, R, _, rfl, .inl (SqL.of p3), _, rfl, _, _, rfl, rfl, ?_⟩
        have ea : ((r.dropLast.map V.int).length : Int) - (((dv.map V.int).length : Int) - 1) = ((r.length - 1 - (dv.length - 1) : Nat) : Int) := by
          rw [eg, List.length_map, el]
          omega
        refine ⟨_, rfl, _, rfl, by omega, by omega, ?_⟩
        rw [show (((dv.map V.int).length : Int) - 1).toNat = dv.length - 1 by rw [eg, Int.toNat_natCast]]
        refine for_range (lo := 0) (n := dv.length - 1) (fun i σ H5 => ∃ u, σ = [some (.ref a), some (.ref b), some (.int (((dv.map V.int).length : Int) - 1)), some (.ref R), some (.ref L), some (.int (r.getLastD 0)), some (.int (((r.dropLast.map V.int).length : Int) - (((dv.map V.int).length : Int) - 1))), u] ∧ Same H H5 ∧ H5 R = some (.lst ((subN (r.getLastD 0) dv (r.length - 1 - (dv.length - 1)) r.dropLast i).map V.int)) ∧ H5 L = some (.lst ((q ++ [r.getLastD 0]).map V.int)))
          ⟨u7, rfl, s4, p3, p4⟩ ?_ ?_
        · rintro i σ H5 hi ⟨u, rfl, s5, p5, p6⟩
          have e0 : (0 : Int) + (i : Int) = (i : Int) := Int.zero_add _
          have e1 : ((r.dropLast.map V.int).length : Int) - (((dv.map V.int).length : Int) - 1) + ((0 : Int) + (i : Int)) = ((r.length - 1 - (dv.length - 1) + i : Nat) : Int) := by
            rw [ea]
            omega
          have sl := subN_len (r.getLastD 0) dv (r.length - 1 - (dv.length - 1)) r.dropLast i
          have gd : -1000 ≤ dv.getD i 0 ∧ dv.getD i 0 ≤ 1000 := by
            rw [List.getD_eq_getElem?_getD, List.getElem?_eq_getElem (by omega : i < dv.length)]
            exact db _ (List.getElem_mem _)
          have gx : atI (dv.map V.int) ((0 : Int) + (i : Int)) = some (V.int (dv.getD i 0)) := by rw [e0]; exact atI_nat (getD_of (by omega))
          refine ⟨_, rfl, _, rfl, _, rfl, _, _, rfl, rfl, R, _, r.length - 1 - (dv.length - 1) + i, _, rfl, congrArg V.int e1, SqL.of p5, getD_of (by omega), _, rfl, _, rfl, _, rfl, ?_⟩
          have fin : rI CMul (fun i j => .int (i * j)) (.int (r.getLastD 0)) (.int (dv.getD i 0)) H5 (fun y H4 => ipI (fun i j => i - j) (.int ((subN (r.getLastD 0) dv (r.length - 1 - (dv.length - 1)) r.dropLast i).getD (r.length - 1 - (dv.length - 1) + i) 0)) y H4 (fun z H5 => rSetL (.ref R) (.int (((r.dropLast.map V.int).length : Int) - (((dv.map V.int).length : Int) - 1) + ((0 : Int) + (i : Int)))) z H5 fun H6 => ∃ u, [some (V.ref a), some (.ref b), some (.int (((dv.map V.int).length : Int) - 1)), some (.ref R), some (.ref L), some (.int (r.getLastD 0)), some (.int (((r.dropLast.map V.int).length : Int) - (((dv.map V.int).length : Int) - 1))), some (.int (0 + (i : Int)))] = [some (.ref a), some (.ref b), some (.int (((dv.map V.int).length : Int) - 1)), some (.ref R), some (.ref L), some (.int (r.getLastD 0)), some (.int (((r.dropLast.map V.int).length : Int) - (((dv.map V.int).length : Int) - 1))), u] ∧ Same H H6 ∧ H6 R = some (.lst ((subN (r.getLastD 0) dv (r.length - 1 - (dv.length - 1)) r.dropLast (i + 1)).map V.int)) ∧ H6 L = some (.lst ((q ++ [r.getLastD 0]).map V.int)))) := by
            refine ⟨_, _, rfl, rfl, Or.inr ⟨by omega, by omega⟩, _, _, rfl, rfl, R, _, _, r.length - 1 - (dv.length - 1) + i, rfl, rfl, p5, ?_, _, rfl, same_at s5 hR, ?_, ?_⟩
            · rw [e1, List.length_map]
              exact ixN_nat (by omega)
            · rw [upd_same, ← List.map_set]
              rfl
            · rw [upd_ne hRL.symm]
              exact p6
          rcases hbL H5 s5 with z | z
          · exact .inl ⟨b, _, _, _, rfl, rfl, z, gx, fin⟩
          · exact .inr ⟨b, _, _, _, rfl, rfl, z, gx, fin⟩
        · rintro σ H5 ⟨u, rfl, s5, p5, p6⟩
          have dl : (divStep (dv.length - 1) dv r).length = r.length - 1 := by
            show (subN _ _ _ _ _).length = _
            rw [subN_len, el]
          refine ⟨⟨divStep (dv.length - 1) dv r, q ++ [r.getLastD 0], _, _, _, rfl, s5, p5, p6, ?_, ?_⟩, ?_⟩
          · rw [dl, List.length_append]
            simp
            omega
          · rw [dl, ← hg]
            have e7 : r.length - (dv.length - 1) = (r.length - 1 - (dv.length - 1)) + 1 := by omega
            rw [e7]
            rfl
          · rw [p5, h1]
            show ((subN _ _ _ _ _).map V.int).length < (r.map V.int).length
            rw [List.length_map, List.length_map, subN_len, el]
            omega
      · have c1 : ¬ ((dv.map V.int).length : Int) - 1 < ((r.map V.int).length : Int) := fun z => c (decide_eq_true z)
        rw [eg, List.length_map] at c1
        have e8 : r.length - (dv.length - 1) = 0 := by omega
        rw [e8] at hg
        have g1 : divL xs dv = (q.reverse, r) := by
          show ((divGo _ _ _ _ _).1.reverse, (divGo _ _ _ _ _).2) = _
          rw [← hg]
          rfl
        refine ⟨_, rfl, L, _, rfl, SqL.of h2, fun p hp => ⟨_, rfl, by show 2 ≤ sizeLine; decide, fun t ht => ?_⟩⟩
        have s9 : Same H2 (upd H2 p (.lst (q.map V.int).reverse)) := same_upd hp
        have n1 : H p = none := s2.free hp
        have n2 : H t = none := (s2.trans s9).free ht
        refine k t p R _ ((s2.trans s9).trans (same_upd ht)) n2 n1 hR upd_same ?_ ?_
        · rw [upd_ne (ne_of_none (upd_same (H := H2)) ht), upd_same, g1, List.map_reverse]
        · rw [upd_ne (ne_of_none (s9 _ _ h1) ht), upd_ne (ne_of_none h1 hp), g1]
          exact h1
    · intro σ H2 Q1 Q2 hq hc
      obtain ⟨v, e1, p, ys, e2, e3, v2, e4, i, j, e5, e6, kk, e7, e8⟩ := hc
      exact ⟨v, e1, p, ys, e2, e3, v2, e4, i, j, e5, e6, kk, e7, hq _ _ e8⟩
end
end K18

namespace K18
open PySem PySem.Spec PyProof.Rows L2
def E12 : List Int := [6, 12, 4, 7, 60, 3, 2, 30, 36, 5, 16, 59]
def okS (s : List Int × Int) : Bool := decide (2 ≤ s.1.length) && (decide (s.1.length ≤ 61) && (s.1.all (fun d => decide (-1000 ≤ d) && decide (d ≤ 1000)) && (decide (1 ≤ s.2) && decide (s.2 ≤ 60))))
def polyS (e : Int) (i : Nat) : List Int × Int := ((primesL e).take i).foldl polyStep ([-1, 1], e)
theorem e12_in : ∀ r ∈ R14, ordL r ∈ E12 := by decide +kernel
theorem e12_bd : ∀ e ∈ E12, 2 ≤ e ∧ e ≤ 60 := by decide +kernel
theorem e12_primes : ∀ e ∈ E12, ∀ p ∈ primesL e, 2 ≤ p ∧ p ≤ 60 := by decide +kernel
theorem e12_ok : ∀ e ∈ E12, ∀ i ∈ List.range ((primesL e).length + 1), okS (polyS e i) = true := by decide +kernel
theorem polyS_succ {e : Int} {i : Nat} {p : Int} (h : (primesL e)[i]? = some p) : polyS e (i + 1) = polyStep (polyS e i) p := by
  unfold polyS
  rw [takeS h, List.foldl_append]
  rfl
theorem okS_of {s : List Int × Int} (h : okS s = true) : 2 ≤ s.1.length ∧ s.1.length ≤ 61 ∧ (∀ d ∈ s.1, -1000 ≤ d ∧ d ≤ 1000) ∧ 1 ≤ s.2 ∧ s.2 ≤ 60 := by
  unfold okS at h
  simp only [Bool.and_eq_true, decide_eq_true_eq, List.all_eq_true] at h
  exact ⟨h.1, h.2.1, h.2.2.1, h.2.2.2.1, h.2.2.2.2⟩
section
variable {P : Program} {w : World} {K : PySem.W.Frag} {mg : Str → Option Value} {base : Heap} {f fP fD fS : Addr} {fd fdP fdD fdS : FuncData}
def spPoly (K : PySem.W.Frag) : Sp := fun vs H Q _ => ∃ e : Int, vs = [.int e] ∧ e ∈ E12 ∧ ∀ t H', Same H H' → H t = none → H' t = some (.tup ((polyL e).map V.int)) → Q (.ref t) H'
theorem scPoly : FnScope ["order", "polynomial", "left", "prime", "_"] ["order"] (defScope sPoly) := ⟨rfl, rfl, rfl, by decide +kernel, rfl, by decide +kernel, by decide +kernel⟩
theorem ok_poly (F : FnP K "polynomial_of" sPoly f fd) (B : Bl mg) (FP : FnP K "primes_of" sPrimes fP fdP) (gP : mg "primes_of" = some (.ref fP)) (FD : FnP K "_divided" sDiv fD fdD) (gD : mg "_divided" = some (.ref fD)) (FS : FnP K "_stretched" sStr fS fdS) (gS : mg "_stretched" = some (.ref fS)) :
    FnOk P w K mg base CX0 2 f fd ["order"] (spPoly K) := by
  have GP : FnOk P w K mg base CX0 1 fP fdP ["number"] spPrimes := ok_primes FP B
  have GD : FnOk P w K mg base CX0 1 fD fdD ["items", "divisor"] (spDiv K) := ok_div FD B
  have GS : FnOk P w K mg base CX0 1 fS fdS ["items", "by"] (spStr K) := ok_str FS B
  have bP : Binds K fdP ["number"] [] := FP.bindsN fun _ _ _ _ _ _ us hl => match us, hl with | [_], _ => rfl
  have bD : Binds K fdD ["items", "divisor"] [] := FD.bindsN fun _ _ _ _ _ _ us hl => match us, hl with | [_, _], _ => rfl
  have bS : Binds K fdS ["items", "by"] [] := FS.bindsN fun _ _ _ _ _ _ us hl => match us, hl with | [_, _], _ => rfl
  refine F.ok scPoly (fun vs H Q E h => ?_) (fun cdv A outer s H vs Q E hr h => ?_)
  · obtain ⟨e, rfl, _⟩ := h
    rfl
  · obtain ⟨e, rfl, he, k⟩ := h
    have eb := e12_bd e he
    refine ⟨_, PSs.nox (pss_cons (ps_set (i := 1) scPoly.nd rfl (Or.inl rfl) (pe_lst (pa_cons (pe_un un_neg pe_int) (pa_cons pe_int pa_nil))))
      (pss_cons (ps_set (i := 2) scPoly.nd rfl (Or.inl rfl) (pv 0))
      (pss_cons (ps_for PassesOwn.never rfl (pi_list (pe_call GP hr rfl gP FP.kp bP .nil pass0 (pa_cons (pv 0) pa_nil))) (pg_name (i := 3) scPoly.nd rfl (Or.inl rfl))
        (pss_cons (ps_asg (pe_call GD hr rfl gD FD.kp bD .nil pass0 (pa_cons (pe_call GS hr rfl gS FS.kp bS .nil pass0 (pa_cons (pv 1) (pa_cons (pv 3) pa_nil))) (pa_cons (pv 1) pa_nil))) (pg_tup rfl (pgs_cons (pg_name (i := 1) scPoly.nd rfl (Or.inl rfl)) (pgs_cons (pg_name (i := 4) scPoly.nd rfl (Or.inl rfl)) pgs_nil))))
        (pss_one (ps_set (i := 2) scPoly.nd rfl (Or.inl rfl) (pe_op op_fdiv (pv 2) (pv 3))))))
      (pss_one (ps_ret (pe_callTy call_tuple_of (by rfl) (B "tuple" (by decide +kernel)) (by decide +kernel) (pa_cons (pe_call GS hr rfl gS FS.kp bS .nil pass0 (pa_cons (pv 1) (pa_cons (pv 2) pa_nil))) pa_nil))))))), ?_⟩
    refine ⟨_, rfl, by show 2 ≤ sizeLine; decide, fun L hL => ?_⟩
    have s0 : Same H (upd H L (.lst [.int (-1), .int 1])) := same_upd hL
    refine ⟨_, rfl, _, rfl, e, rfl, by omega, by omega, fun p H1 s1 np h1 => ?_⟩
    refine ⟨p, rfl, ⟨_, SqL.of h1⟩, for_list (K := K) (a := p) (xs := (primesL e).map V.int) (fun i σ H2 => ∃ (l : Addr) (u v : Option V), σ = [some (.int e), some (.ref l), some (.int (polyS e i).2), u, v] ∧ Same H H2 ∧ H2 p = some (.lst ((primesL e).map V.int)) ∧ H2 l = some (.lst ((polyS e i).1.map V.int)))
      ⟨L, none, none, rfl, s0.trans s1, h1, s1 _ _ upd_same⟩ (fun i σ H2 _ ⟨_, _, _, _, _, z, _⟩ => SqL.of z) ?_ ?_⟩
    · rintro i y σ H2 hi ⟨l, u, v, rfl, s2, h2, h3⟩
      obtain ⟨c, rfl, hc⟩ := getI hi
      have cb := e12_primes e he c (List.mem_of_getElem? hc)
      have hil := ltL hc
      obtain ⟨o1, o2, o3, o4, o5⟩ := okS_of (e12_ok e he i (List.mem_range.mpr (by omega)))
      obtain ⟨n, rfl⟩ := Int.eq_ofNat_of_zero_le (show 0 ≤ c by omega)
      refine ⟨_, rfl, _, rfl, l, _, n, rfl, SqL.of h3, by omega, by omega, by omega, by omega, fun q H3 s3 nq h4 => ?_⟩
      have hlen : (strL (polyS e i).1 n).length ≤ 10000 := by
        unfold strL
        rw [strN_len]
        have z : ((polyS e i).1.length - 1) * n ≤ 60 * 60 := Nat.mul_le_mul (by omega) (by omega)
        omega
      refine ⟨_, rfl, q, l, _, _, rfl, SqL.of h4, .inl (SqL.of (s3 _ _ h3)), by omega, by omega, hlen, o3, fun t a b H4 s4 nt na nb h5 h6 h7 => ?_⟩
      refine ⟨t, _, rfl, SqT.of h5, rfl, _, _, rfl, _, _, rfl, rfl, ?_⟩
      refine ⟨_, rfl, _, rfl, _, _, rfl, rfl, ⟨by omega, by omega⟩, ?_⟩
      refine ⟨a, some (.int (n : Int)), some (.ref b), ?_, (s2.trans s3).trans s4, s4 _ _ (s3 _ _ h2), ?_⟩
      · rw [polyS_succ hc]
        rfl
      · rw [polyS_succ hc]
        exact h6
    · rintro σ H2 ⟨l, u, v, rfl, s2, h2, h3⟩
      rw [List.length_map] at h3
      obtain ⟨o1, o2, o3, o4, o5⟩ := okS_of (e12_ok e he (primesL e).length (List.mem_range.mpr (by omega)))
      obtain ⟨n, hn⟩ := Int.eq_ofNat_of_zero_le (show 0 ≤ (polyS e (primesL e).length).2 by omega)
      have hn' : (polyS e ((primesL e).map V.int).length).2 = (n : Int) := by rw [List.length_map]; exact hn
      refine ⟨_, rfl, _, rfl, l, (polyS e (primesL e).length).1, n, ?_, SqL.of h3, by omega, by omega, by omega, by omega, fun q H3 s3 nq h4 => ?_⟩
      · rw [hn']
        rfl
      · refine ⟨q, _, rfl, .inl ⟨SqL.of h4, fun t ht => ?_⟩⟩
        have n1 : H t = none := (s2.trans s3).free ht
        refine k t _ ((s2.trans s3).trans (same_upd ht)) n1 ?_
        rw [upd_same]
        have e9 : polyS e (primesL e).length = (primesL e).foldl polyStep ([-1, 1], e) := by
          unfold polyS
          rw [List.take_length]
        have e10 : polyL e = strL (polyS e (primesL e).length).1 n := by
          show strL ((primesL e).foldl polyStep ([-1, 1], e)).1 ((primesL e).foldl polyStep ([-1, 1], e)).2.toNat = _
          rw [← e9, hn]
          rfl
        rw [e10]
/-! ### reduced -/
def spRed (K : PySem.W.Frag) : Sp := fun vs H Q _ => ∃ (a b : Addr) (xs dv : List Int), vs = [.ref a, .ref b] ∧ SqL K H a (xs.map V.int) ∧ SqT K H b (dv.map V.int) ∧ 2 ≤ dv.length ∧ dv.length ≤ 100 ∧ xs.length ≤ 100 ∧ dv.length ≤ xs.length ∧ (∀ d ∈ dv, -1000 ≤ d ∧ d ≤ 1000) ∧
  ∀ t H', Same H H' → H t = none → H' t = some (.tup ((redL xs dv).map V.int)) → Q (.ref t) H'
theorem scRed : FnScope ["items", "polynomial", "_", "rest"] ["items", "polynomial"] (defScope sRed) := ⟨rfl, rfl, rfl, by decide +kernel, rfl, by decide +kernel, by decide +kernel⟩
theorem divGo_len (deg : Nat) (dv : List Int) : ∀ n r q, r.length = deg + n → (divGo deg dv n r q).2.length = deg
  | 0, r, q, h => by simpa [divGo] using h
  | n + 1, r, q, h => by
    unfold divGo
    refine divGo_len deg dv n _ _ ?_
    show (subN _ _ _ _ _).length = _
    rw [subN_len, List.length_dropLast]
    omega
theorem divL_len {xs dv : List Int} (h1 : 1 ≤ dv.length) (h2 : dv.length ≤ xs.length) : (divL xs dv).2.length = dv.length - 1 := divGo_len _ _ _ _ _ (by omega)
theorem ok_red (F : FnP K "reduced" sRed f fd) (B : Bl mg) (FD : FnP K "_divided" sDiv fD fdD) (gD : mg "_divided" = some (.ref fD)) : FnOk P w K mg base CX0 2 f fd ["items", "polynomial"] (spRed K) := by
  have GD : FnOk P w K mg base CX0 1 fD fdD ["items", "divisor"] (spDiv K) := ok_div FD B
  have bD : Binds K fdD ["items", "divisor"] [] := FD.bindsN fun _ _ _ _ _ _ us hl => match us, hl with | [_, _], _ => rfl
  refine F.ok scRed (fun vs H Q E h => ?_) (fun cdv A outer s H vs Q E hr h => ?_)
  · obtain ⟨a, b, xs, dv, rfl, _⟩ := h
    rfl
  · obtain ⟨a, b, xs, dv, rfl, hS, hD, d1, d2, x1, x2, db, k⟩ := h
    refine ⟨_, PSs.nox (pss_cons (ps_asg (pe_call GD hr rfl gD FD.kp bD .nil pass0 (pa_cons (pv 0) (pa_cons (pv 1) pa_nil))) (pg_tup rfl (pgs_cons (pg_name (i := 2) scRed.nd rfl (Or.inl rfl)) (pgs_cons (pg_name (i := 3) scRed.nd rfl (Or.inl rfl)) pgs_nil))))
      (pss_one (ps_ret (pe_callTy call_tuple_of (by rfl) (B "tuple" (by decide +kernel)) (by decide +kernel) (pa_cons (pe_op op_cat (pv 3) (pe_op op_rep (pe_lst (pa_cons pe_int pa_nil)) (pe_op op_sub (pe_op op_sub (pe_callB call_len_seq (by rfl) (B "len" (by decide +kernel)) PySem.boot_len (pa_cons (pv 1) pa_nil)) pe_int) (pe_callB call_len_seq (by rfl) (B "len" (by decide +kernel)) PySem.boot_len (pa_cons (pv 3) pa_nil))))) pa_nil))))), ?_⟩
    refine ⟨_, rfl, _, rfl, a, b, xs, dv, rfl, hS, .inr hD, by omega, by omega, by omega, db, fun t q r H1 s1 nt nq nr h1 h2 h3 => ?_⟩
    have dl : (divL xs dv).2.length = dv.length - 1 := divL_len (by omega) x2
    refine ⟨t, _, rfl, SqT.of h1, rfl, _, _, rfl, _, _, rfl, rfl, ?_⟩
    refine ⟨_, rfl, by show 1 ≤ sizeLine; decide, fun z hz => ?_⟩
    have sz : Same H1 (upd H1 z (.lst [.int 0])) := same_upd hz
    refine ⟨_, rfl, b, _, rfl, .inr ((s1.trans sz).tup hD), _, _, rfl, rfl, _, rfl, r, _, rfl, .inl (SqL.of (sz _ _ h3)), _, _, rfl, rfl, z, _, _, rfl, rfl, upd_same, ?_⟩
    have ez : ((dv.map V.int).length : Int) - 1 - ((((divL xs dv).2).map V.int).length : Int) = 0 := by
      rw [List.length_map, List.length_map, dl]
      omega
    rw [ez]
    refine ⟨by decide, by decide, by show 1 * 0 ≤ sizeLine; rw [sizeLine_eq]; omega, fun y hy => ?_⟩
    have sy : Same H1 (upd (upd H1 z (.lst [.int 0])) y (.lst (List.replicate (Int.toNat 0) [V.int 0]).flatten)) := same_new sz hy
    refine ⟨r, y, _, _, rfl, rfl, sy _ _ h3, upd_same, sl_1000 (by rw [List.length_map, dl]; simp; omega), fun c hc => ?_⟩
    refine ⟨c, _, rfl, .inl ⟨SqL.of upd_same, fun t2 ht2 => ?_⟩⟩
    have s3 : Same H1 (upd (upd (upd H1 z (.lst [.int 0])) y (.lst (List.replicate (Int.toNat 0) [V.int 0]).flatten)) c (.lst (((divL xs dv).2.map V.int) ++ (List.replicate (Int.toNat 0) [V.int 0]).flatten))) := same_new sy hc
    refine k t2 _ ((s1.trans s3).trans (same_upd ht2)) ((s1.trans s3).free ht2) ?_
    rw [upd_same]
    unfold redL
    have e0 : dv.length - 1 - (divL xs dv).2.length = 0 := by omega
    rw [e0, List.map_append]
    rfl
end
end K18

namespace K18
open PySem PySem.Spec PyProof.Rows L2
section
variable {prog : Program} {w : World} {A : Around} {E : Value → Shared → Prop} {s : Shared} {t : Addr} {its : List Value} {ns : List Int} {Q : Value → Shared → Prop}
/-- min of a tuple of ints -/
theorem minT_raw (hh : A.handled = none) (ht : s.heap.IsTuple t its.toArray) (hi : IntsAre its ns) (hne : 0 < ns.length)
    (h : ∀ h' tk M t', (∀ b o, s.heap.get? b = some o → h'.get? b = some o) → M ∈ ns → (∀ a, a ∈ ns → M ≤ a) → Q (.int M t') { s with heap := h', toks := tk }) : wpAny (model prog w) A (call (.builtin "min") [.ref t]) Q E s := by
  obtain ⟨xs, e⟩ := hi.allInts.items
  have hn : numsOf (intItems xs).toList = ns := by rw [← e]; exact hi.numsOf
  rw [nums_intItems] at hn
  subst hn
  rw [e] at ht
  have hsz : 0 < xs.size := by simpa using hne
  obtain ⟨o0, g0, _⟩ := id ht
  have hlt := Heap.lt_size g0
  refine call_min_walk (wpAny_pyIter_tuple ht ?_)
  refine ⟨_, [s.heap.objs.size, t], [s.heap.objs.size], _, _, _, _, rfl, Walks.tuple (A := A.in1) hh s.heap.objs.size t (Nat.ne_of_lt hlt) (intItems xs), ⟨⟨_, Heap.get?_push_size _ rfl, rfl, rfl⟩, ht.push _⟩, fun d hd => ?_, by simpa [intItems] using hsz, CmpOf.ints_lt (numAt xs) (fun _ _ => intItems_at), fun v h' tk hP hk => ?_⟩
  · show d < (s.heap.push _).objs.size
    rw [Heap.size_push]
    rcases List.mem_cons.mp hd with rfl | hd
    · exact Nat.lt_succ_self _
    · rw [List.mem_singleton.mp hd]
      exact Nat.lt_succ_of_lt hlt
  · obtain ⟨tt, rfl⟩ := intItems_at hP
    have sz : (intItems xs).size = xs.size := by simp [intItems]
    obtain ⟨h1, h2⟩ := argBest_lt (numAt xs) ((intItems xs).size - 1)
    refine h h' tk _ tt (fun b o g => hk b o (fun z => ?_) (Heap.get?_push_of_some _ g)) ?_ fun a ha => ?_
    · rw [List.mem_singleton.mp z] at g
      exact absurd (Heap.lt_size g) (Nat.lt_irrefl _)
    · rw [numAt_eq]; exact PySem.getD_mem (by rw [List.length_map, Array.length_toList]; omega)
    · obtain ⟨j, hj, rfl⟩ := mem_getD ha
      rw [List.length_map, Array.length_toList] at hj
      rw [← numAt_eq]; exact h2 j (by omega)
end
section
variable {X : Cx}
def rMinT (K : PySem.W.Frag) : List V → Hp → VK → Prop := fun vs H Q => ∃ (a : Addr) (ns : List Int), vs = [V.ref a] ∧ SqT K H a (ns.map V.int) ∧ 0 < ns.length ∧ ∀ m, m ∈ ns → (∀ y, y ∈ ns → m ≤ y) → Q (.int m) H
theorem cr_minT (hc : X.calm = true) : CallR X (.builtin "min") (rMinT X.K) := by
  intro pins s σ H vs us Q I r h
  obtain ⟨a, ns, rfl, hs, hne, q⟩ := h
  obtain ⟨its, rv, hl, _⟩ := I.tuple hs
  rw [Vals.ref1 r]
  exact minT_raw (I.ok.hd hc) hl rv.ints hne fun h' tk m t' hk h1 h2 => ⟨.int _, H, I.kept hk, ⟨_, rfl⟩, q m h1 h2⟩
theorem tyT {K : PySem.W.Frag} {H : Hp} {a : Addr} {xs : List V} (h : SqT K H a xs) : TyX K H (.ref a) (.type "tuple") := by
  rcases h with h | ⟨o, its, n, hk, hc, _⟩
  · rcases h with h | ⟨o, h⟩
    · exact .base (.tup h)
    · exact .fTuple h
  · exact .kTuple hk hc
end
/-! ### the kinds -/
section
variable {P : Program} {w : World} {K : PySem.W.Frag} {mg : Str → Option Value} {base : Heap} {f f1 f2 f3 : Addr} {fd fd1 fd2 fd3 : FuncData}
def spIsInt : Sp := fun vs H Q _ => ∃ i : Int, vs = [.int i] ∧ Q (.bl true) H
theorem scIsInt : FnScope ["thing"] ["thing"] (defScope sIsInt) := ⟨rfl, rfl, rfl, by decide +kernel, rfl, by decide +kernel, by decide +kernel⟩
theorem ok_isInt (F : FnP K "is_integer" sIsInt f fd) (B : Bl mg) : FnOk P w K mg base CX0 1 f fd ["thing"] spIsInt := by
  refine F.ok scIsInt (fun vs H Q E h => ?_) (fun cdv A outer s H vs Q E hr h => ?_)
  · obtain ⟨e, rfl, _⟩ := h
    rfl
  · obtain ⟨i, rfl, k⟩ := h
    refine ⟨_, PSs.nox (pss_one (ps_ret (pe_and (pe_callB call_isi (by rfl) (B "isinstance" (by decide +kernel)) (by decide +kernel) (pa_cons (pv 0) (pa_cons (pe_bltn (v := .ty "int") rfl (B "int" (by decide +kernel)) (by decide +kernel) rfl) pa_nil)))
      (pe_one (pe_not (pe_callB call_isi (by rfl) (B "isinstance" (by decide +kernel)) (by decide +kernel) (pa_cons (pv 0) (pa_cons (pe_bltn (v := .ty "bool") rfl (B "bool" (by decide +kernel)) (by decide +kernel) rfl) pa_nil)))))))), ?_⟩
    refine ⟨_, rfl, _, _, .type "int", _, true, rfl, .ty "int", .base (.int i), kit_ty (by decide +kernel), true, rfl, ?_⟩
    exact ⟨_, rfl, _, _, .type "int", _, false, rfl, .ty "bool", .base (.int i), kit_ty (by decide +kernel), false, rfl, k⟩
def spIsInts (K : PySem.W.Frag) : Sp := fun vs H Q _ => ∃ (v : V) (ns : List Int), vs = [v] ∧ TupI K H v ns ∧ ns.length ≤ 100 ∧ ∀ H', Same H H' → Q (.bl true) H'
theorem scIsInts : FnScope ["thing", "item"] ["thing"] (defScope sIsInts) := ⟨rfl, rfl, rfl, by decide +kernel, rfl, by decide +kernel, by decide +kernel⟩
theorem all_true (n : Nat) : (List.replicate n true).all id = true := by simp
theorem ok_isInts (F : FnP K "is_integers" sIsInts f fd) (B : Bl mg) (F1 : FnP K "is_integer" sIsInt f1 fd1) (g1 : mg "is_integer" = some (.ref f1)) : FnOk P w K mg base CX0 2 f fd ["thing"] (spIsInts K) := by
  have G1 : FnOk P w K mg base CX0 1 f1 fd1 ["thing"] spIsInt := ok_isInt F1 B
  have b1 : Binds K fd1 ["thing"] [] := F1.bindsN fun _ _ _ _ _ _ us hl => match us, hl with | [_], _ => rfl
  refine F.ok scIsInts (fun vs H Q E h => ?_) (fun cdv A outer s H vs Q E hr h => ?_)
  · obtain ⟨v, ns, rfl, _⟩ := h
    rfl
  · obtain ⟨v, ns, rfl, ⟨a, rfl, ha⟩, hl, k⟩ := h
    refine ⟨_, PSs.nox (pss_one (ps_ret (pe_and (pe_callB call_isi (by rfl) (B "isinstance" (by decide +kernel)) (by decide +kernel) (pa_cons (pv 0) (pa_cons (pe_bltn (v := .ty "tuple") rfl (B "tuple" (by decide +kernel)) (by decide +kernel) rfl) pa_nil)))
      (pe_one (pe_callB (cr_all rfl) (by rfl) (B "all" (by decide +kernel)) (by decide +kernel) (pa_cons (pe_lc (own := [("item", 1)]) (g := gName 1) (tt := tYes) (te := tCall spIsInt [] E0 (tCons (tVar 1) tNil)) rfl scIsInts.nd (pi_tup (pv 0))
        (blkOk_by (own := [("item", 1)]) (N := ["thing", "item"]) (sc := defScope sIsInts) (by decide +kernel)) (fun _ _ _ _ _ => pg_name (i := 1) scIsInts.nd rfl (Or.inl rfl)) (fun _ _ _ _ _ => pts_nil) (fun _ _ _ _ _ => pe_call G1 hr rfl g1 F1.kp b1 .nil pass0 (pa_cons (pv 1) pa_nil))) pa_nil)))))), ?_⟩
    refine ⟨_, rfl, _, _, .type "tuple", _, true, rfl, .ty "tuple", tyT ha, kit_ty (by decide +kernel), true, rfl, ?_⟩
    refine ⟨_, rfl, a, rfl, ⟨_, ha⟩, fun D hD => ?_⟩
    refine lc_tup (K := K) (a := a) (xs := ns.map V.int) (fun i H2 => Same H H2 ∧ H2 D = some (.lst ((List.replicate i true).map V.bl))) ⟨same_upd hD, upd_same⟩ (fun i H2 _ ⟨s2, _⟩ => s2.tup ha) ?_ ?_
    · rintro i y H2 hi ⟨s2, h2⟩
      obtain ⟨c, rfl, hc⟩ := getI hi
      have := ltL hc
      refine ⟨rfl, _, rfl, c, rfl, _, h2, sl_lt (by rw [List.length_map, List.length_replicate]; omega), same_at s2 hD, ?_⟩
      rw [upd_same, List.replicate_succ', List.map_append]
      rfl
    · rintro H2 ⟨s2, h2⟩
      refine ⟨D, _, rfl, SqL.of h2, ?_⟩
      rw [all_true]
      exact k H2 s2
/-! ### _size -/
def spSize (K : PySem.W.Frag) : Sp := fun vs H Q _ => ∃ (v : V) (r : List Int), vs = [v] ∧ TupI K H v r ∧ r ∈ R14 ∧ ∃ n : Int, n ≤ 60 ∧ Q (.int n) H
def sizeL (r : List Int) : Int := r.foldl (fun a b => a * b) 1
theorem r14_size : ∀ r ∈ R14, ∀ i ∈ List.range (r.length + 1), 1 ≤ sizeL (r.take i) ∧ sizeL (r.take i) ≤ 60 := by decide +kernel
def spSize' (K : PySem.W.Frag) : Sp := fun vs H Q _ => ∃ (v : V) (r : List Int), vs = [v] ∧ TupI K H v r ∧ r ∈ R14 ∧ Q (.int (sizeL r)) H
theorem scSize : FnScope ["lengths", "size", "length"] ["lengths"] (defScope sSize) := ⟨rfl, rfl, rfl, by decide +kernel, rfl, by decide +kernel, by decide +kernel⟩
theorem size_take {r : List Int} {i : Nat} {x : Int} (h : r[i]? = some x) : sizeL (r.take (i + 1)) = sizeL (r.take i) * x := by
  rw [takeS h]
  unfold sizeL
  rw [List.foldl_append]
  rfl
theorem ok_size (F : FnP K "_size" sSize f fd) : FnOk P w K mg base CX0 1 f fd ["lengths"] (spSize' K) := by
  refine F.ok scSize (fun vs H Q E h => ?_) (fun cdv A outer s H vs Q E hr h => ?_)
  · obtain ⟨v, r, rfl, _⟩ := h
    rfl
  · obtain ⟨v, r, rfl, ⟨a, rfl, ha⟩, h14, k⟩ := h
    refine ⟨_, PSs.nox (pss_cons (ps_set (i := 1) scSize.nd rfl (Or.inl rfl) pe_int)
      (pss_cons (ps_for PassesOwn.never rfl (pi_tup (pv 0)) (pg_name (i := 2) scSize.nd rfl (Or.inl rfl)) (pss_one (ps_set (i := 1) scSize.nd rfl (Or.inl rfl) (pe_op op_mul (pv 1) (pv 2)))))
      (pss_one (ps_ret (pv 1))))), ?_⟩
    refine ⟨_, rfl, a, rfl, ⟨_, ha⟩, for_tup (K := K) (a := a) (xs := r.map V.int) (fun i σ H2 => ∃ u, σ = [some (.ref a), some (.int (sizeL (r.take i))), u] ∧ H2 = H) ⟨none, rfl, rfl⟩ (fun i σ H2 _ ⟨_, _, e⟩ => by rw [e]; exact ha) ?_ ?_⟩
    · rintro i y σ H2 hi ⟨u, rfl, rfl⟩
      obtain ⟨c, rfl, hc⟩ := getI hi
      have hl := ltL hc
      have h1 := r14_size r h14 i (List.mem_range.mpr (by omega))
      refine ⟨_, rfl, _, rfl, _, _, rfl, rfl, Or.inl ⟨by omega, by omega⟩, some (.int c), by rw [size_take hc]; rfl, rfl⟩
    · rintro σ H2 ⟨u, rfl, rfl⟩
      refine ⟨_, rfl, ?_⟩
      rw [List.length_map, List.take_length]
      exact k
end
end K18

namespace K18
open PySem PySem.Spec PyProof.Rows L2
theorem r14_whole {r : List Int} (h : r ∈ R14) {p : List Int} (hp : p ∈ placesL r) : p.length = r.length := by
  have z := r14_plen r h r.length (List.mem_range.mpr (Nat.lt_succ_self _))
  rw [List.take_length] at z
  exact z p hp
theorem r14_bd : ∀ r ∈ R14, ∀ p ∈ placesL r, ∀ i ∈ List.range r.length, 0 ≤ p.getD i 0 ∧ p.getD i 0 < r.getD i 0 := by decide +kernel
theorem r14_it : ∀ r ∈ R14, ∀ p ∈ placesL r, ∀ x ∈ p, 0 ≤ x ∧ x < 60 := by decide +kernel
section
variable {P : Program} {w : World} {K : PySem.W.Frag} {mg : Str → Option Value} {base : Heap} {f f1 f2 f3 f4 : Addr} {fd fd1 fd2 fd3 fd4 : FuncData}
/-! ### are_rings, check_rings -/
def spAre (K : PySem.W.Frag) : Sp := fun vs H Q _ => ∃ (v : V) (r : List Int), vs = [v] ∧ TupI K H v r ∧ r ∈ R14 ∧ ∀ H', Same H H' → Q (.bl true) H'
theorem scAre : FnScope ["thing"] ["thing"] (defScope sAre) := ⟨rfl, rfl, rfl, by decide +kernel, rfl, by decide +kernel, by decide +kernel⟩
theorem ok_are (F : FnP K "are_rings" sAre f fd) (B : Bl mg) (F1 : FnP K "is_integers" sIsInts f1 fd1) (g1 : mg "is_integers" = some (.ref f1)) (G1 : FnOk P w K mg base CX0 2 f1 fd1 ["thing"] (spIsInts K)) (F2 : FnP K "_size" sSize f2 fd2) (g2 : mg "_size" = some (.ref f2))
    (gR : ∃ t, mg "MOST_RINGS" = some (.int 4 t)) (gP : ∃ t, mg "MOST_PLACES" = some (.int 60 t)) : FnOk P w K mg base CX0 3 f fd ["thing"] (spAre K) := by
  have G2 : FnOk P w K mg base CX0 1 f2 fd2 ["lengths"] (spSize' K) := ok_size F2
  have b1 : Binds K fd1 ["thing"] [] := F1.bindsN fun _ _ _ _ _ _ us hl => match us, hl with | [_], _ => rfl
  have b2 : Binds K fd2 ["lengths"] [] := F2.bindsN fun _ _ _ _ _ _ us hl => match us, hl with | [_], _ => rfl
  obtain ⟨t1, e1⟩ := gR
  obtain ⟨t2, e2⟩ := gP
  refine F.ok scAre (fun vs H Q E h => ?_) (fun cdv A outer s H vs Q E hr h => ?_)
  · obtain ⟨v, r, rfl, _⟩ := h
    rfl
  · obtain ⟨v, r, rfl, ⟨a, rfl, ha⟩, h14, k⟩ := h
    refine ⟨_, PSs.nox (pss_cons (ps_if (PW.pt (pw_or (pt_not (pt_val (pe_call G1 hr rfl g1 F1.kp b1 .nil pass0 (pa_cons (pv 0) pa_nil)))) (pw_or1 (pt_not (pt_chain op_le op_le pe_int (pe_callB call_len_seq (by rfl) (B "len" (by decide +kernel)) PySem.boot_len (pa_cons (pv 0) pa_nil)) (pe_glob (v := .int 4) rfl e1 ⟨_, rfl⟩))))))
        (pss_one ps_never) pss_nil)
      (pss_one (ps_ret (pe_and (pe_cmpR op_ge (pe_callB (cr_minT rfl) (by rfl) (B "min" (by decide +kernel)) (by decide +kernel) (pa_cons (pv 0) pa_nil)) pe_int (nomark _))
        (pe_one (pe_cmpR op_le (pe_call G2 (hr.mono (by decide)) rfl g2 F2.kp b2 .nil pass0 (pa_cons (pv 0) pa_nil)) (pe_glob (v := .int 60) rfl e2 ⟨_, rfl⟩) (nomark _))))))), ?_⟩
    have hn := r14_len r h14
    refine ⟨_, rfl, _, r, rfl, ⟨a, rfl, ha⟩, by omega, fun H1 s1 => ?_⟩
    have ha1 : SqT K H1 a (r.map V.int) := s1.tup ha
    refine ⟨_, rfl, ?_⟩
    refine iteF ?_
    refine ⟨_, rfl, a, _, rfl, .inr ha1, _, _, rfl, rfl, _, rfl, ?_⟩
    have c1 : decide ((1 : Int) ≤ ((r.map V.int).length : Int)) = true := decide_eq_true (by rw [List.length_map]; omega)
    have c2 : decide (((r.map V.int).length : Int) ≤ 4) = true := decide_eq_true (by rw [List.length_map]; omega)
    refine ite2 (fun _ => ?_) (fun z => absurd c1 z)
    refine ⟨_, _, rfl, rfl, _, rfl, ?_⟩
    rw [c2]
    refine iteF ?_
    refine ⟨_, rfl, a, r, rfl, ha1, by omega, fun m hm hle => ⟨_, _, rfl, rfl, _, rfl, ?_⟩⟩
    have c3 : decide ((2 : Int) ≤ m) = true := decide_eq_true (r14_pos r h14 m hm).1
    refine ite2 (fun _ => ?_) (fun z => absurd c3 z)
    have z := r14_size r h14 r.length (List.mem_range.mpr (Nat.lt_succ_self _))
    rw [List.take_length] at z
    refine ⟨_, rfl, _, r, rfl, ⟨a, rfl, ha1⟩, h14, _, _, rfl, rfl, ?_⟩
    have c4 : decide (sizeL r ≤ 60) = true := decide_eq_true z.2
    show Q (.bl (decide (sizeL r ≤ 60))) H1
    rw [c4]
    exact k H1 s1
def spNon (K : PySem.W.Frag) : Sp := fun vs H Q _ => ∃ (v : V) (r : List Int), vs = [v] ∧ TupI K H v r ∧ r ∈ R14 ∧ ∀ H', Same H H' → Q .non H'
theorem scChkR : FnScope ["rings"] ["rings"] (defScope sChkR) := ⟨rfl, rfl, rfl, by decide +kernel, rfl, by decide +kernel, by decide +kernel⟩
theorem ok_chkR (F : FnP K "check_rings" sChkR f fd) (F1 : FnP K "are_rings" sAre f1 fd1) (g1 : mg "are_rings" = some (.ref f1)) (G1 : FnOk P w K mg base CX0 3 f1 fd1 ["thing"] (spAre K)) : FnOk P w K mg base CX0 4 f fd ["rings"] (spNon K) := by
  have b1 : Binds K fd1 ["thing"] [] := F1.bindsN fun _ _ _ _ _ _ us hl => match us, hl with | [_], _ => rfl
  refine F.ok scChkR (fun vs H Q E h => ?_) (fun cdv A outer s H vs Q E hr h => ?_)
  · obtain ⟨v, r, rfl, _⟩ := h
    rfl
  · obtain ⟨v, r, rfl, ⟨a, rfl, ha⟩, h14, k⟩ := h
    refine ⟨_, PSs.nox (pss_one (ps_if (pt_not (pt_val (pe_call G1 hr rfl g1 F1.kp b1 .nil pass0 (pa_cons (pv 0) pa_nil)))) (pss_one ps_never) pss_nil)), ?_⟩
    refine ⟨_, rfl, _, r, rfl, ⟨a, rfl, ha⟩, h14, fun H1 s1 => ⟨_, rfl, iteF (k H1 s1)⟩⟩
theorem scOrdOf : FnScope ["rings"] ["rings"] (defScope sOrdOf) := ⟨rfl, rfl, rfl, by decide +kernel, rfl, by decide +kernel, by decide +kernel⟩
theorem ok_ordOf (F : FnP K "order_of" sOrdOf f fd) (F1 : FnP K "check_rings" sChkR f1 fd1) (g1 : mg "check_rings" = some (.ref f1)) (G1 : FnOk P w K mg base CX0 4 f1 fd1 ["rings"] (spNon K)) (F2 : FnP K "common_order" sOrder f2 fd2) (g2 : mg "common_order" = some (.ref f2)) (G2 : FnOk P w K mg base CX0 1 f2 fd2 ["rings"] (spOrder K)) : FnOk P w K mg base CX0 5 f fd ["rings"] (spOrder K) := by
  have b1 : Binds K fd1 ["rings"] [] := F1.bindsN fun _ _ _ _ _ _ us hl => match us, hl with | [_], _ => rfl
  have b2 : Binds K fd2 ["rings"] [] := F2.bindsN fun _ _ _ _ _ _ us hl => match us, hl with | [_], _ => rfl
  refine F.ok scOrdOf (fun vs H Q E h => ?_) (fun cdv A outer s H vs Q E hr h => ?_)
  · obtain ⟨v, r, rfl, _⟩ := h
    rfl
  · obtain ⟨v, r, rfl, ⟨a, rfl, ha⟩, h14, k⟩ := h
    refine ⟨_, PSs.nox (pss_cons (ps_expr (pe_call G1 hr rfl g1 F1.kp b1 .nil pass0 (pa_cons (pv 0) pa_nil))) (pss_one (ps_ret (pe_call G2 (hr.mono (by decide)) rfl g2 F2.kp b2 .nil pass0 (pa_cons (pv 0) pa_nil))))), ?_⟩
    exact ⟨_, rfl, _, r, rfl, ⟨a, rfl, ha⟩, h14, fun H1 s1 => ⟨_, rfl, _, r, rfl, ⟨a, rfl, s1.tup ha⟩, h14, fun H2 s2 => k H2 (s1.trans s2)⟩⟩
/-! ### is_place, check_place -/
def spIsPl (K : PySem.W.Frag) : Sp := fun vs H Q _ => ∃ (v u : V) (r p : List Int), vs = [v, u] ∧ TupI K H v r ∧ TupI K H u p ∧ r ∈ R14 ∧ p ∈ placesL r ∧ ∀ H', Same H H' → Q (.bl true) H'
theorem scIsPl : FnScope ["rings", "thing", "k"] ["rings", "thing"] (defScope sIsPl) := ⟨rfl, rfl, rfl, by decide +kernel, rfl, by decide +kernel, by decide +kernel⟩
theorem ok_isPl (F : FnP K "is_place" sIsPl f fd) (B : Bl mg) (F1 : FnP K "is_integers" sIsInts f1 fd1) (g1 : mg "is_integers" = some (.ref f1)) (G1 : FnOk P w K mg base CX0 2 f1 fd1 ["thing"] (spIsInts K)) : FnOk P w K mg base CX0 3 f fd ["rings", "thing"] (spIsPl K) := by
  have b1 : Binds K fd1 ["thing"] [] := F1.bindsN fun _ _ _ _ _ _ us hl => match us, hl with | [_], _ => rfl
  refine F.ok scIsPl (fun vs H Q E h => ?_) (fun cdv A outer s H vs Q E hr h => ?_)
  · obtain ⟨v, u, r, p, rfl, _⟩ := h
    rfl
  · obtain ⟨v, u, r, p, rfl, ⟨a, rfl, ha⟩, ⟨b, rfl, hb⟩, h14, hp, k⟩ := h
    refine ⟨_, PSs.nox (pss_cons (ps_if (PW.pt (pw_or (pt_not (pt_val (pe_call G1 hr rfl g1 F1.kp b1 .nil pass0 (pa_cons (pv 1) pa_nil)))) (pw_or1 (pt_cmpR op_ne (pe_callB call_len_seq (by rfl) (B "len" (by decide +kernel)) PySem.boot_len (pa_cons (pv 1) pa_nil)) (pe_callB call_len_seq (by rfl) (B "len" (by decide +kernel)) PySem.boot_len (pa_cons (pv 0) pa_nil)) (nomark _)))))
        (pss_one ps_never) pss_nil)
      (pss_one (ps_ret (pe_callB (cr_all rfl) (by rfl) (B "all" (by decide +kernel)) (by decide +kernel) (pa_cons
        (pe_lc (own := [("k", 2)]) (g := gName 2) (tt := tYes) (te := tChain (rI0 fun i j => .bl (decide (i ≤ j))) (rI0 fun i j => .bl (decide (i < j))) (tC (.int 0)) (tOp (rIxT K) (tVar 1) (tVar 2)) (tOp (rIxT K) (tVar 0) (tVar 2))) rfl scIsPl.nd (pi_range1 rfl (B "range" (by decide +kernel)) (pa_cons (pe_callB call_len_seq (by rfl) (B "len" (by decide +kernel)) PySem.boot_len (pa_cons (pv 0) pa_nil)) pa_nil))
          (blkOk_by (own := [("k", 2)]) (N := ["rings", "thing", "k"]) (sc := defScope sIsPl) (by decide +kernel)) (fun _ _ _ _ _ => pg_name (i := 2) scIsPl.nd rfl (Or.inl rfl)) (fun _ _ _ _ _ => pts_nil) (fun _ _ _ _ _ => pe_chain op_le op_lt pe_int (pe_ix ix_tup (pv 1) (pv 2) (fun _ _ => rfl)) (pe_ix ix_tup (pv 0) (pv 2) (fun _ _ => rfl)))) pa_nil))))), ?_⟩
    have hn := r14_len r h14
    have hl := r14_whole h14 hp
    refine ⟨_, rfl, _, p, rfl, ⟨b, rfl, hb⟩, by omega, fun H1 s1 => ⟨_, rfl, iteF ?_⟩⟩
    refine ⟨_, rfl, b, _, rfl, .inr (s1.tup hb), _, rfl, a, _, rfl, .inr (s1.tup ha), rfl, _, rfl, ?_⟩
    refine iteNS (by rw [List.length_map, List.length_map, hl]) ?_
    refine ⟨_, rfl, a, _, rfl, .inr (s1.tup ha), _, rfl, by rw [List.length_map]; omega, by rw [List.length_map]; omega, fun D hD => ?_⟩
    have en : ((r.map V.int).length : Int).toNat = r.length := by rw [List.length_map]; omega
    rw [en]
    refine lc_range (lo := 0) (n := r.length) (fun i H2 => Same H1 H2 ∧ H2 D = some (.lst ((List.replicate i true).map V.bl))) ⟨same_upd hD, upd_same⟩ ?_ ?_
    · rintro i H2 hi ⟨s2, h2⟩
      have e0 : (0 : Int) + (i : Int) = (i : Int) := Int.zero_add _
      have bd := r14_bd r h14 p hp i (List.mem_range.mpr hi)
      have g1' : atI (p.map V.int) ((0 : Int) + (i : Int)) = some (V.int (p.getD i 0)) := by rw [e0]; exact atI_nat (getD_of (by omega))
      have g2' : atI (r.map V.int) ((0 : Int) + (i : Int)) = some (V.int (r.getD i 0)) := by rw [e0]; exact atI_nat (getD_of hi)
      have c1 : decide ((0 : Int) ≤ p.getD i 0) = true := decide_eq_true bd.1
      have c2 : decide (p.getD i 0 < r.getD i 0) = true := decide_eq_true bd.2
      refine ⟨rfl, _, rfl, _, rfl, b, _, _, _, rfl, rfl, (s1.trans s2).tup hb, g1', _, _, rfl, rfl, _, rfl, ?_⟩
      refine ite2 (fun _ => ?_) (fun z => absurd c1 z)
      refine ⟨_, rfl, _, rfl, a, _, _, _, rfl, rfl, (s1.trans s2).tup ha, g2', _, _, rfl, rfl, ?_⟩
      refine ⟨_, h2, sl_lt (by rw [List.length_map, List.length_replicate]; omega), same_at s2 hD, ?_⟩
      rw [upd_same, List.replicate_succ', List.map_append]
      show some (HO.lst (_ ++ [V.bl (decide (p.getD i 0 < r.getD i 0))])) = _
      rw [c2]
      rfl
    · rintro H2 ⟨s2, h2⟩
      refine ⟨D, _, rfl, SqL.of h2, ?_⟩
      rw [all_true]
      exact k H2 (s1.trans s2)
def spChkP (K : PySem.W.Frag) : Sp := fun vs H Q _ => ∃ (v u : V) (r p : List Int), vs = [v, u] ∧ TupI K H v r ∧ TupI K H u p ∧ r ∈ R14 ∧ p ∈ placesL r ∧ ∀ H', Same H H' → Q .non H'
theorem scChkP : FnScope ["rings", "place"] ["rings", "place"] (defScope sChkP) := ⟨rfl, rfl, rfl, by decide +kernel, rfl, by decide +kernel, by decide +kernel⟩
theorem ok_chkP (F : FnP K "check_place" sChkP f fd) (F1 : FnP K "check_rings" sChkR f1 fd1) (g1 : mg "check_rings" = some (.ref f1)) (G1 : FnOk P w K mg base CX0 4 f1 fd1 ["rings"] (spNon K)) (F2 : FnP K "is_place" sIsPl f2 fd2) (g2 : mg "is_place" = some (.ref f2)) (G2 : FnOk P w K mg base CX0 3 f2 fd2 ["rings", "thing"] (spIsPl K)) :
    FnOk P w K mg base CX0 5 f fd ["rings", "place"] (spChkP K) := by
  have b1 : Binds K fd1 ["rings"] [] := F1.bindsN fun _ _ _ _ _ _ us hl => match us, hl with | [_], _ => rfl
  have b2 : Binds K fd2 ["rings", "thing"] [] := F2.bindsN fun _ _ _ _ _ _ us hl => match us, hl with | [_, _], _ => rfl
  refine F.ok scChkP (fun vs H Q E h => ?_) (fun cdv A outer s H vs Q E hr h => ?_)
  · obtain ⟨v, u, r, p, rfl, _⟩ := h
    rfl
  · obtain ⟨v, u, r, p, rfl, ⟨a, rfl, ha⟩, ⟨b, rfl, hb⟩, h14, hp, k⟩ := h
    refine ⟨_, PSs.nox (pss_cons (ps_expr (pe_call G1 hr rfl g1 F1.kp b1 .nil pass0 (pa_cons (pv 0) pa_nil)))
      (pss_one (ps_if (pt_not (pt_val (pe_call G2 (hr.mono (by decide)) rfl g2 F2.kp b2 .nil pass0 (pa_cons (pv 0) (pa_cons (pv 1) pa_nil))))) (pss_one ps_never) pss_nil))), ?_⟩
    exact ⟨_, rfl, _, r, rfl, ⟨a, rfl, ha⟩, h14, fun H1 s1 => ⟨_, rfl, _, rfl, _, _, r, p, rfl, ⟨a, rfl, s1.tup ha⟩, ⟨b, rfl, s1.tup hb⟩, h14, hp, fun H2 s2 => ⟨_, rfl, iteF (k H2 (s1.trans s2))⟩⟩⟩
end
end K18

namespace K18
open PySem PySem.Spec PyProof.Rows L2
theorem n1 : ¬ (("rings" : Str) = "order") := by decide +kernel
theorem n2 : ¬ (("rings" : Str) = "polynomial") := by decide +kernel
theorem n3 : ¬ (("rings" : Str) = "degree") := by decide +kernel
theorem n4 : ¬ (("rings" : Str) = "places") := by decide +kernel
theorem n5 : ¬ (("order" : Str) = "polynomial") := by decide +kernel
theorem n6 : ¬ (("order" : Str) = "degree") := by decide +kernel
theorem n7 : ¬ (("order" : Str) = "places") := by decide +kernel
theorem n8 : ¬ (("polynomial" : Str) = "degree") := by decide +kernel
theorem n9 : ¬ (("polynomial" : Str) = "places") := by decide +kernel
theorem n10 : ¬ (("degree" : Str) = "places") := by decide +kernel
/-- the attributes of a floor -/
def flds (a : Addr) (e : Int) (po : Addr) (d : Int) (pl : Addr) : List (Str × V) := [("rings", .ref a), ("order", .int e), ("polynomial", .ref po), ("degree", .int d), ("places", .ref pl)]
theorem pf1 (a : Addr) : putF "rings" (.ref a) [] = [(("rings" : Str), V.ref a)] := rfl
theorem pf2 (a : Addr) (e : Int) : putF "order" (.int e) [("rings", V.ref a)] = [(("rings" : Str), V.ref a), ("order", .int e)] := by simp [putF, n1]
theorem pf3 (a : Addr) (e : Int) (po : Addr) : putF "polynomial" (.ref po) [("rings", V.ref a), ("order", .int e)] = [(("rings" : Str), V.ref a), ("order", .int e), ("polynomial", .ref po)] := by simp [putF, n2, n5]
theorem pf4 (a : Addr) (e : Int) (po : Addr) (d : Int) : putF "degree" (.int d) [("rings", V.ref a), ("order", .int e), ("polynomial", .ref po)] = [(("rings" : Str), V.ref a), ("order", .int e), ("polynomial", .ref po), ("degree", .int d)] := by simp [putF, n3, n6, n8]
theorem pf5 (a : Addr) (e : Int) (po : Addr) (d : Int) (pl : Addr) : putF "places" (.ref pl) [("rings", V.ref a), ("order", .int e), ("polynomial", .ref po), ("degree", .int d)] = flds a e po d pl := by simp [putF, flds, n4, n7, n9, n10]
theorem lk {x y : Str} {v : V} {r : List (Str × V)} (h : ¬ x = y) : ((x, v) :: r).lookup y = r.lookup y := by
  rw [List.lookup_cons]
  have e : (y == x) = false := by
    rw [beq_eq_false_iff_ne]
    exact fun z => h z.symm
  rw [e]
theorem lk0 {x : Str} {v : V} {r : List (Str × V)} : ((x, v) :: r).lookup x = some v := by
  rw [List.lookup_cons, beq_self_eq_true]
theorem g_rings {a e po d pl} : (flds a e po d pl).lookup ("rings" : Str) = some (.ref a) := lk0
theorem g_order {a e po d pl} : (flds a e po d pl).lookup ("order" : Str) = some (.int e) := by
  unfold flds
  rw [lk n1, lk0]
theorem g_poly {a e po d pl} : (flds a e po d pl).lookup ("polynomial" : Str) = some (.ref po) := by
  unfold flds
  rw [lk n2, lk n5, lk0]
theorem g_no {a e po d pl} : (flds a e po d pl).lookup ("pairing_of" : Str) = none := by
  unfold flds
  rw [lk (by decide +kernel), lk (by decide +kernel), lk (by decide +kernel), lk (by decide +kernel), lk (by decide +kernel)]
  rfl
structure FlT (K : PySem.W.Frag) (mg : Str → Option Value) (C fI fM : Addr) : Prop where
  cl : Cls K C
  aR : NoAttr K C "rings"
  aO : NoAttr K C "order"
  aP : NoAttr K C "polynomial"
  aD : NoAttr K C "degree"
  aL : NoAttr K C "places"
  mkk : Mk K C fI
  mt : Meth K C "pairing_of" fM
  mgC : mg "Floor" = some (.ref C)
/-- a floor of these rings at p -/
def FloorAt (K : PySem.W.Frag) (C : Addr) (H : Hp) (p : Addr) (r : List Int) : Prop := ∃ (dx a po pl : Addr) (d : Int), H p = some (.ins C dx (flds a (ordL r) po d pl)) ∧ SqT K H a (r.map V.int) ∧ SqT K H po ((polyL (ordL r)).map V.int)
theorem _root_.L2.Same.floor {K : PySem.W.Frag} {C : Addr} {H H' : Hp} {p : Addr} {r : List Int} (e : Same H H') (h : FloorAt K C H p r) : FloorAt K C H' p r := by
  obtain ⟨dx, a, po, pl, d, h1, h2, h3⟩ := h
  exact ⟨dx, a, po, pl, d, e _ _ h1, e.tup h2, e.tup h3⟩
section
variable {P : Program} {w : World} {K : PySem.W.Frag} {mg : Str → Option Value} {base : Heap} {f f1 f2 f3 f4 C fI fM : Addr} {fd fd1 fd2 fd3 fd4 : FuncData}
def spFInit (K : PySem.W.Frag) (C : Addr) : Sp := fun vs H Q _ => ∃ (p dx : Addr) (v : V) (r : List Int), vs = [.ref p, v] ∧ H p = some (.ins C dx []) ∧ TupI K H v r ∧ r ∈ R14 ∧ ∀ H', FloorAt K C H' p r → (∀ b o, H b = some o → b ≠ p → H' b = some o) → Q .non H'
theorem scFI : FnScope ["self", "rings"] ["self", "rings"] (defScope sFInit) := ⟨rfl, rfl, rfl, by decide +kernel, rfl, by decide +kernel, by decide +kernel⟩
theorem sqt_ins {K : PySem.W.Frag} {H : Hp} {a D : Addr} {xs : List V} {C dx : Addr} {fs : List (Str × V)} {o : HO} (h : SqT K H a xs) (hD : H D = some (.ins C dx fs)) : SqT K (upd H D o) a xs := by
  rcases h with h | h
  · rcases h with h | ⟨u, h⟩
    · exact .inl (.inl (by rw [upd_ne (ne_of h hD (by intro z; cases z))]; exact h))
    · exact .inl (.inr ⟨u, by rw [upd_ne (ne_of h hD (by intro z; cases z))]; exact h⟩)
  · exact .inr h
theorem ok_fInit (F : FunD K "__init__" "Floor.__init__" (defArgs sFInit) (defBody sFInit) (defScope sFInit) [] [] f fd) (B : Bl mg) (T : FlT K mg C fI fM) (F1 : FnP K "common_order" sOrder f1 fd1) (g1 : mg "common_order" = some (.ref f1)) (G1 : FnOk P w K mg base CX0 1 f1 fd1 ["rings"] (spOrder K))
    (F2 : FnP K "polynomial_of" sPoly f2 fd2) (g2 : mg "polynomial_of" = some (.ref f2)) (G2 : FnOk P w K mg base CX0 2 f2 fd2 ["order"] (spPoly K)) (F3 : FnP K "list_places" sPlaces f3 fd3) (g3 : mg "list_places" = some (.ref f3)) (G3 : FnOk P w K mg base CX0 1 f3 fd3 ["rings"] (spPlaces K)) :
    FnOk P w K mg base CX0 3 f fd ["self", "rings"] (spFInit K C) := by
  have b1 : Binds K fd1 ["rings"] [] := F1.bindsN fun _ _ _ _ _ _ us hl => match us, hl with | [_], _ => rfl
  have b2 : Binds K fd2 ["order"] [] := F2.bindsN fun _ _ _ _ _ _ us hl => match us, hl with | [_], _ => rfl
  have b3 : Binds K fd3 ["rings"] [] := F3.bindsN fun _ _ _ _ _ _ us hl => match us, hl with | [_], _ => rfl
  refine F.ok scFI (fun vs H Q E h => ?_) (fun cdv A outer s H vs Q E hr h => ?_)
  · obtain ⟨p, dx, v, r, rfl, _⟩ := h
    rfl
  · obtain ⟨p, dx, v, r, rfl, hp, ⟨a, rfl, ha⟩, h14, k⟩ := h
    refine ⟨_, PSs.nox (pss_cons (ps_fld (pv 0) (pv 1) rfl)
      (pss_cons (ps_fld (pv 0) (pe_call G1 (hr.mono (by decide)) rfl g1 F1.kp b1 .nil pass0 (pa_cons (pv 1) pa_nil)) rfl)
      (pss_cons (ps_fld (pv 0) (pe_call G2 hr rfl g2 F2.kp b2 .nil pass0 (pa_cons (pe_fld (pv 0) rfl) pa_nil)) rfl)
      (pss_cons (ps_fld (pv 0) (pe_op op_sub (pe_callB call_len_seq (by rfl) (B "len" (by decide +kernel)) PySem.boot_len (pa_cons (pe_fld (pv 0) rfl) pa_nil)) pe_int) rfl)
      (pss_one (ps_fld (pv 0) (pe_call G3 (hr.mono (by decide)) rfl g3 F3.kp b3 .nil pass0 (pa_cons (pv 1) pa_nil)) rfl)))))), ?_⟩
    -- self.rings = rings
    refine ⟨_, rfl, _, rfl, p, C, dx, _, rfl, hp, T.cl, T.aR, (by show 0 < 1000; decide), ?_⟩
    rw [pf1]
    generalize hH1 : upd H p (.ins C dx [(("rings" : Str), V.ref a)]) = H1
    have q1 : H1 p = some (.ins C dx [(("rings" : Str), V.ref a)]) := by rw [← hH1, upd_same]
    have a1 : SqT K H1 a (r.map V.int) := by rw [← hH1]; exact sqt_ins ha hp
    have k1 : ∀ b o, H b = some o → b ≠ p → H1 b = some o := fun b o e n => by rw [← hH1, upd_ne n]; exact e
    -- self.order = common_order(rings)
    refine ⟨_, rfl, _, r, rfl, ⟨a, rfl, a1⟩, h14, fun H2 s2 => ?_⟩
    refine ⟨_, rfl, p, C, dx, _, rfl, s2 _ _ q1, T.cl, T.aO, (by show 1 < 1000; decide), ?_⟩
    rw [pf2]
    generalize hH3 : upd H2 p (.ins C dx [(("rings" : Str), V.ref a), ("order", .int (ordL r))]) = H3
    have q3 : H3 p = some (.ins C dx [(("rings" : Str), V.ref a), ("order", .int (ordL r))]) := by rw [← hH3, upd_same]
    have a3 : SqT K H3 a (r.map V.int) := by rw [← hH3]; exact sqt_ins (s2.tup a1) (s2 _ _ q1)
    have k3 : ∀ b o, H b = some o → b ≠ p → H3 b = some o := fun b o e n => by rw [← hH3, upd_ne n]; exact s2 _ _ (k1 b o e n)
    -- self.polynomial = polynomial_of(self.order)
    refine ⟨_, rfl, p, C, dx, _, _, rfl, q3, T.cl, T.aO, by rw [lk n1, lk0], ordL r, rfl, e12_in r h14, fun po H4 s4 npo h4 => ?_⟩
    refine ⟨_, rfl, p, C, dx, _, rfl, s4 _ _ q3, T.cl, T.aP, (by show 2 < 1000; decide), ?_⟩
    rw [pf3]
    generalize hH5 : upd H4 p (.ins C dx [(("rings" : Str), V.ref a), ("order", .int (ordL r)), ("polynomial", .ref po)]) = H5
    have q5 : H5 p = some (.ins C dx [(("rings" : Str), V.ref a), ("order", .int (ordL r)), ("polynomial", .ref po)]) := by rw [← hH5, upd_same]
    have a5 : SqT K H5 a (r.map V.int) := by rw [← hH5]; exact sqt_ins (s4.tup a3) (s4 _ _ q3)
    have p5 : SqT K H5 po ((polyL (ordL r)).map V.int) := by rw [← hH5]; exact sqt_ins (SqT.of h4) (s4 _ _ q3)
    have k5 : ∀ b o, H b = some o → b ≠ p → H5 b = some o := fun b o e n => by rw [← hH5, upd_ne n]; exact s4 _ _ (k3 b o e n)
    -- self.degree = len(self.polynomial) - 1
    refine ⟨_, rfl, p, C, dx, _, _, rfl, q5, T.cl, T.aP, by rw [lk n2, lk n5, lk0], po, _, rfl, .inr p5, _, _, rfl, rfl, ?_⟩
    refine ⟨_, rfl, p, C, dx, _, rfl, q5, T.cl, T.aD, (by show 3 < 1000; decide), ?_⟩
    rw [pf4]
    generalize ((((polyL (ordL r)).map V.int).length : Int) - 1) = d
    generalize hH6 : upd H5 p (.ins C dx [(("rings" : Str), V.ref a), ("order", .int (ordL r)), ("polynomial", .ref po), ("degree", .int d)]) = H6
    have q6 : H6 p = some (.ins C dx [(("rings" : Str), V.ref a), ("order", .int (ordL r)), ("polynomial", .ref po), ("degree", .int d)]) := by rw [← hH6, upd_same]
    have a6 : SqT K H6 a (r.map V.int) := by rw [← hH6]; exact sqt_ins a5 q5
    have p6 : SqT K H6 po ((polyL (ordL r)).map V.int) := by rw [← hH6]; exact sqt_ins p5 q5
    have k6 : ∀ b o, H b = some o → b ≠ p → H6 b = some o := fun b o e n => by rw [← hH6, upd_ne n]; exact k5 b o e n
    -- self.places = list_places(rings)
    refine ⟨_, rfl, _, r, rfl, ⟨a, rfl, a6⟩, h14, fun pl H7 s7 npl h7 => ?_⟩
    refine ⟨_, rfl, p, C, dx, _, rfl, s7 _ _ q6, T.cl, T.aL, (by show 4 < 1000; decide), ?_⟩
    rw [pf5]
    refine k _ ⟨dx, a, po, pl, d, upd_same, sqt_ins (s7.tup a6) (s7 _ _ q6), sqt_ins (s7.tup p6) (s7 _ _ q6)⟩ fun b o e n => ?_
    rw [upd_ne n]
    exact s7 _ _ (k6 b o e n)
def spFPair (K : PySem.W.Frag) (C : Addr) : Sp := fun vs H Q _ => ∃ (p : Addr) (u z : V) (r x l : List Int), vs = [.ref p, u, z] ∧ FloorAt K C H p r ∧ TupI K H u x ∧ TupI K H z l ∧ r ∈ R14 ∧ x ∈ placesL r ∧ l ∈ placesL r ∧ Q (.int (pairL r (ordL r) x l)) H
theorem scFP : FnScope ["self", "place", "label"] ["self", "place", "label"] (defScope sFPair) := ⟨rfl, rfl, rfl, by decide +kernel, rfl, by decide +kernel, by decide +kernel⟩
theorem ok_fPair (F : FunD K "pairing_of" "Floor.pairing_of" (defArgs sFPair) (defBody sFPair) (defScope sFPair) [] [] f fd) (B : Bl mg) (T : FlT K mg C fI fM) (F1 : FnP K "paired" sPaired f1 fd1) (g1 : mg "paired" = some (.ref f1)) : FnOk P w K mg base CX0 2 f fd ["self", "place", "label"] (spFPair K C) := by
  have G1 : FnOk P w K mg base CX0 1 f1 fd1 ["rings", "order", "place", "label"] (spPaired K) := ok_paired F1 B
  have b1 : Binds K fd1 ["rings", "order", "place", "label"] [] := F1.bindsN fun _ _ _ _ _ _ us hl => match us, hl with | [_, _, _, _], _ => rfl
  refine F.ok scFP (fun vs H Q E h => ?_) (fun cdv A outer s H vs Q E hr h => ?_)
  · obtain ⟨p, u, z, r, x, l, rfl, _⟩ := h
    rfl
  · obtain ⟨p, u, z, r, x, l, rfl, ⟨dx, a, po, pl, d, h1, h2, h3⟩, hx, hl, h14, mx, ml, k⟩ := h
    refine ⟨_, PSs.nox (pss_one (ps_ret (pe_call G1 hr rfl g1 F1.kp b1 .nil pass0 (pa_cons (pe_fld (pv 0) rfl) (pa_cons (pe_fld (pv 0) rfl) (pa_cons (pv 1) (pa_cons (pv 2) pa_nil))))))), ?_⟩
    have eb := e12_bd _ (e12_in r h14)
    refine ⟨_, rfl, p, C, dx, _, _, rfl, h1, T.cl, T.aR, g_rings, _, rfl, p, C, dx, _, _, rfl, h1, T.cl, T.aO, g_order, _, rfl, _, rfl, ?_⟩
    exact ⟨_, _, _, r, x, l, ordL r, rfl, ⟨a, rfl, h2⟩, hx, hl, h14, r14_whole h14 mx, r14_whole h14 ml, r14_it r h14 x mx, r14_it r h14 l ml, by omega, by omega, k⟩
end
end K18

/-! Sets of tuples of ints: add, in. -/
namespace K18
open PySem PySem.Spec PyProof.Rows L2
section
variable {X : Cx} {pins : List (Addr × Obj)} {σ : L2.St} {H : Hp} {s : Shared} {E : Value → Shared → Prop}
theorem full_of (I : Inv X pins σ H s) {D : Addr} {L : List (Addr × List Int)} (hD : H D = some (SetTO X.prog X.w D L)) (hL : TL X.K H L) : ∃ es ep t, SetTR X.prog X.w s.heap D L es ep t :=
  SetT0.full (I.hok D _ hD).1 fun p hp => I.isT (hL p hp)
theorem addT_ok {D y : Addr} {L : List (Addr × List Int)} {k : List Int} {Q : Value → Shared → Prop} (I : Inv X pins σ H s) (hu : X.A.units + 64 < cLine) (hD : H D = some (SetTO X.prog X.w D L)) (hL : TL X.K H L) (hy : SqT X.K H y (k.map V.int)) (few : L.length + 1 < 64)
    (h : ∀ s' L', (k ∈ L.map (·.2) → L' = L) → (k ∉ L.map (·.2) → L'.Perm ((y, k) :: L)) → Inv X pins σ (upd H D (SetTO X.prog X.w D L')) s' → Q .none s') : wpAny (model X.prog X.w) X.A (call (.builtin "set.add") [.ref D, .ref y]) Q E s := by
  obtain ⟨es, ep, t, R⟩ := full_of I hD hL
  have hx := I.isT hy
  have hu1 : X.A.in1.units < cLine := by
    show X.A.units + 1 < cLine
    omega
  obtain ⟨o, ho, hex, hd⟩ := R.ob
  have hT : s.TypeIs (.ref D) "set" := ⟨o, ho, hex.1⟩
  refine wpAny_call_entry F.slot_set_add hT F.entry_set_add ?_ (F.args_set_add_2 _ _)
  unfold Builtin.«set.add» Builtin.Frozenset.oneOther
  simp only [List.isEmpty_nil, bind_assoc]
  unfold Builtin.Frozenset.addrOf setAdd
  refine wpAny_bind (wpAny_pure ?_)
  try dsimp only
  refine wpAny_bind (wpAny_pure ?_)
  try dsimp only
  refine wpAny_bind (wpAny_holding (wpAny_bind (wpAny_pyHash_tuple hu1 hx ?_)))
  refine add_at (s := { s with toks := s.toks + (k.length + 1) }) R hx hu1 few fun b h' L' es' ep' t' sb R' c1 c2 => ?_
  have Z0 : SetT0 X.prog X.w h' D L' := R'.t0
  have he : ∃ u, h'.get? D = some u := by
    obtain ⟨o', ho', _⟩ := R'.ob
    exact ⟨o', ho'⟩
  show wpAny _ _ (ret Value.none) _ _ _
  exact wpAny_pure ⟨_, rfl, h _ L' c1 c2 (I.write (e := D) (t' := s.toks + (k.length + 1)) (by rw [hD]; trivial) (.inl rfl) (fun b u hb hu => (sb.2 b hb).trans hu) he (setTO_new Z0))⟩
end
/-! ### searching without adding -/
section
variable {P : Program} {w : World} {A : Around} {E : Value → Shared → Prop} {s : Shared} {a : Addr} {L : List (Addr × List Int)} {es : Array (Int × Value)} {ep : Nat} {t : SetTable}
/-- the way of k from the c-th step on -/
abbrev at_ (P : Program) (w : World) (t : SetTable) (k : List Int) (c : Nat) : SetTable.Probe := nth t.mask (runAt t.mask (SetTable.bits (thash P w k) % (t.mask + 1)) (SetTable.bits (thash P w k))) c
theorem no_dummy (m : Nat) : ∀ (n : Nat) (p : SetTable.Probe), p.dummy = none → (nth m p n).dummy = none
  | 0, _, h => h
  | n + 1, p, h => no_dummy m n (adv m p) (by unfold adv; split <;> exact h)
theorem look_from (R : SetTR P w s.heap a L es ep t) {x : Addr} {k : List Int} (hx : IsT P w s.heap k x) (hu : A.units < cLine) {M : Nat} (hMf : M < 10 * SetTable.turns t.mask) (hM : way t.mask (thash P w k) M ∉ t.place.toList)
    (hMb : ∀ c, c < M → way t.mask (thash P w k) c ∈ t.place.toList) {Q : SetFound → Shared → Prop} (yes : k ∈ L.map (·.2) → ∀ i, Q (.there (some i)) s) (no : k ∉ L.map (·.2) → Q (.free (way t.mask (thash P w k) M) false) s) :
    ∀ (f c : Nat) (stand : Option SetTable.Probe), stand.getD (t.probeStart (thash P w k)) = at_ P w t k c → c ≤ M → M - c < f → (∀ (i : Nat) p, L[i]? = some p → p.2 = k → ∃ d, c ≤ d ∧ d < M ∧ t.place.toList[i]? = some (way t.mask (thash P w k) d)) →
      wpAny (model P w) A (setSearchFrom a (.ref x) (thash P w k) false f stand) Q E s := by
  obtain ⟨o, ho, hex, hd⟩ := R.ob
  have hashAt : ∀ (i : Nat) p, L[i]? = some p → (fun i => (es[i]?.map (·.1)).getD 0) i = thash P w p.2 := fun i p hp => by
    show (es[i]?.map (·.1)).getD 0 = _
    rw [R.entry hp]
    rfl
  intro f
  induction f with
  | zero => exact fun c _ _ _ z => absurd z (Nat.not_lt_zero _)
  | succ f ih =>
    intro c stand hst hc hf hre
    rw [setSearchFrom_succ]
    refine wpAny_bind (wpAny_setState_of ho hd R.fits ?_)
    dsimp only
    refine wp_if_neg R.gw ?_
    try refine wpAny_bind (wpAny_pure ?_)
    have hnd : (at_ P w t k c).dummy = none := no_dummy _ c _ rfl
    have jump : ∀ q, nth t.mask (at_ P w t k c) q = at_ P w t k (c + q) := fun q => (nth_add t.mask c _ q).symm
    have jj : ∀ q, (nth t.mask (at_ P w t k c) q).j = way t.mask (thash P w k) (c + q) := fun q => congrArg SetTable.Probe.j (jump q)
    have eM : c + (M - c) = M := by omega
    rcases go_spec t R.tab.ris R.tab.dm (fun i => (es[i]?.map (·.1)).getD 0) (thash P w k) (10 * SetTable.turns t.mask) (M - c) _ hnd (by omega) (fun q hq => by rw [jj]; exact hMb (c + q) (by omega)) (by rw [jj, eM]; exact hM) with ⟨q, i, hq, hi, hh, hno, hpr⟩ | ⟨hno, hpr⟩
    · have pr : t.probe (fun i => (es[i]?.map (·.1)).getD 0) (thash P w k) (stand.getD (t.probeStart (thash P w k))) = some (.candidate (way t.mask (thash P w k) (c + q)) i (at_ P w t k (c + (q + 1)))) := by
        rw [hst, ← jj, ← jump]
        exact hpr
      rw [pr]
      dsimp only
      rw [jj] at hi
      have hil : i < L.length := by
        have h1 := ltL hi
        have h2 := R.tab.sz
        rw [List.length_map] at h2
        rw [Array.length_toList] at h1
        omega
      obtain ⟨p, hp⟩ : ∃ p, L[i]? = some p := ⟨_, List.getElem?_eq_getElem hil⟩
      have hmem : p ∈ L := List.mem_of_getElem? hp
      have live : t.slot (way t.mask (thash P w k) (c + q)) = .live i := slot_live R.tab.ris hi
      have rest : wpAny (model P w) A (searchRest a (.ref x) (thash P w k) false f es t (way t.mask (thash P w k) (c + q)) i (at_ P w t k (c + (q + 1)))) Q E s := by
        unfold searchRest
        rw [R.entry hp]
        dsimp only
        refine wpAny_bind (wpAny_holding (wpAny_eqBool_tuple hu (R.tup p hmem) hx ?_))
        refine wpAny_bind (wpAny_setState_of ho hd R.fits ?_)
        dsimp only
        refine wp_if_neg (by simp) ?_
        try refine wpAny_bind (wpAny_pure ?_)
        rw [sameMem]
        dsimp only
        simp only [if_true, live, R.entry hp]
        refine wpAny_bind (wpAny_isSame_ref_self (wpAny_bind (wpAny_pure ?_)))
        simp only [if_true]
        by_cases kk : p.2 = k
        · refine wp_if_pos (by simp [kk]) ?_
          exact wpAny_pure (yes (List.mem_map.mpr ⟨p, hmem, kk⟩) _)
        · refine wp_if_neg (by simp [kk]) ?_
          refine ih (c + (q + 1)) _ rfl (by omega) (by omega) fun i0 p0 h0 hk0 => ?_
          obtain ⟨d, a1, a2, a3⟩ := hre i0 p0 h0 hk0
          refine ⟨d, ?_, a2, a3⟩
          rcases Nat.lt_trichotomy d (c + q) with z | z | z
          · exact absurd ((hashAt i0 p0 h0).trans (congrArg (thash P w) hk0)) (hno (d - c) i0 (by omega) (by rw [jj, show c + (d - c) = d by omega]; exact a3))
          · rw [z] at a3
            have s0 := slot_live R.tab.ris a3
            rw [live] at s0
            injection s0 with s0
            rw [← s0, hp] at h0
            exact absurd ((congrArg Prod.snd (Option.some.inj h0)).trans hk0) kk
          · omega
      by_cases hl : t.led = true
      · refine wp_if_neg (by simp [hl]) ?_
        try refine wpAny_bind (wpAny_pure ?_)
        exact rest
      · refine wp_if_pos (by simp [hl]) ?_
        refine wpAny_bind (seen_tup hx (fun y hy => ?_) ?_)
        · obtain ⟨e, he, ee⟩ := List.mem_map.mp hy
          have he1 : e ∈ es ∧ e.1 = thash P w k := by simpa using he
          have he2 : e ∈ rowsOf P w L := by rw [← R.rows]; simpa using he1.1
          obtain ⟨p2, hp2, e2⟩ := List.mem_map.mp he2
          exact ⟨p2.2, p2.1, by rw [← ee, ← e2], R.tup p2 hp2⟩
        · refine wp_if_neg (by decide) ?_
          try refine wpAny_bind (wpAny_pure ?_)
          exact rest
    · have pr : t.probe (fun i => (es[i]?.map (·.1)).getD 0) (thash P w k) (stand.getD (t.probeStart (thash P w k))) = some (.empty (way t.mask (thash P w k) M) none) := by
        have e2 : way t.mask (thash P w k) M = (nth t.mask (at_ P w t k c) (M - c)).j := by rw [jj, eM]
        rw [hst, e2]
        exact hpr
      rw [pr]
      dsimp only
      refine wpAny_pure (no fun hm => ?_)
      obtain ⟨p0, h0, hk0⟩ := List.mem_map.mp hm
      obtain ⟨i0, hi0, e0⟩ := List.getElem_of_mem h0
      have h00 : L[i0]? = some p0 := by rw [List.getElem?_eq_getElem hi0, e0]
      obtain ⟨d, a1, a2, a3⟩ := hre i0 p0 h00 hk0
      exact hno (d - c) i0 (by omega) (by rw [jj, show c + (d - c) = d by omega]; exact a3) ((hashAt i0 p0 h00).trans (congrArg (thash P w) hk0))
theorem find_T (R : SetTR P w s.heap a L es ep t) {x : Addr} {k : List Int} (hx : IsT P w s.heap k x) (hu : A.units < cLine) {Q : Option Nat → Shared → Prop} (h : ∀ r, r.isSome = decide (k ∈ L.map (·.2)) → Q r s) : wpAny (model P w) A (setFind a (.ref x) (thash P w k)) Q E s := by
  obtain ⟨o, ho, hex, hd⟩ := R.ob
  have hroom := R.room
  obtain ⟨M, hMf, hM, hMb⟩ := R.tab.first (by rw [List.length_map]; omega) (thash P w k)
  have hbig : M < 100000 := by
    have : 10 * SetTable.turns t.mask ≤ 1420 := by
      unfold SetTable.turns
      rcases R.tab.mok with e | e | e <;> omega
    omega
  unfold setFind
  rw [show (100000 : Nat) = 99999 + 1 from rfl]
  unfold setFindIn
  refine wpAny_bind (wpAny_setState_of ho hd R.fits ?_)
  dsimp only
  refine wp_if_neg (by simp [byScan, Value.scannable]) ?_
  try refine wpAny_bind (wpAny_pure ?_)
  unfold setSearch
  refine wpAny_bind (look_from R hx hu hMf hM hMb (fun hm i => wpAny_pure (h _ (by rw [decide_eq_true hm]; rfl))) (fun hm => wpAny_pure (h _ (by rw [decide_eq_false hm]; rfl))) 100000 0 none rfl (Nat.zero_le _) (by omega) fun i p hp hk => ?_)
  have hi : (L.map fun p => thash P w p.2)[i]? = some (thash P w k) := by rw [List.getElem?_map, hp, ← hk]; rfl
  have hil : i < t.place.toList.length := by
    have h1 := ltL hp
    have h2 := R.tab.sz
    rw [List.length_map] at h2
    rw [Array.length_toList]
    omega
  have hj := List.getElem?_eq_getElem hil
  obtain ⟨c, hc, e⟩ := R.tab.before hM hi hj
  exact ⟨c, Nat.zero_le _, hc, by rw [hj, e]⟩
end
section
variable {X : Cx}
/-- k not in the set of tuples -/
def rNotInT (K : PySem.W.Frag) (P : Program) (w : World) : R2 := fun x y H Q => ∃ (b D : Addr) (L : List (Addr × List Int)) (k : List Int), x = .ref b ∧ y = .ref D ∧ SqT K H b (k.map V.int) ∧ H D = some (SetTO P w D L) ∧ TL K H L ∧ Q (.bl (!decide (k ∈ L.map (·.2)))) H
theorem or_notInT (hu : X.A.units + 64 < cLine) : OpR X (compareOp .NotIn) (rNotInT X.K X.prog X.w) := by
  intro pins s σ H x y v u Q I rx ry h
  obtain ⟨b, D, L, k, rfl, rfl, hb, hD, hL, q⟩ := h
  cases rx
  cases ry
  obtain ⟨es, ep, t, R⟩ := full_of I hD hL
  have hx := I.isT hb
  have hu1 : X.A.in1.units < cLine := by
    show X.A.units + 1 < cLine
    omega
  obtain ⟨o, ho, hex, hd⟩ := R.ob
  have hT : s.TypeIs (.ref D) "set" := ⟨o, ho, hex.1⟩
  show wpAny _ _ (do return Value.bool (!(← contains (Value.ref D) (Value.ref b))) : Sem Value) _ _ s
  refine wpAny_bind ?_
  unfold contains
  try with_reducible refine wpAny_holding ?_
  refine wpAny_bind (wpAny_specialOf hT F.slot_set_contains.lookup ?_)
  show wpAny _ _ (if (some (Value.builtin "set.__contains__") == some Value.none) = true then _ else _) _ _ s
  rw [if_neg (by rw [beq_builtin_none]; exact Bool.false_ne_true)]
  refine wpAny_bind (wpAny_callSpecialUnlessNone?_slot (name := PySem.Str.ofString "__contains__") hT F.slot_set_contains (wpAny_call_entry F.slot_set_contains hT entry_set_contains ?_ (F.args_set_contains_2 _ _)))
  unfold Builtin.«frozenset.__contains__» Builtin.Frozenset.oneOther
  simp only [List.isEmpty_nil, bind_assoc]
  unfold Builtin.Frozenset.addrOf Builtin.Frozenset.withSetAsKey setContains
  refine wpAny_bind (wpAny_pure ?_)
  try dsimp only
  refine wpAny_bind (wpAny_pure ?_)
  try dsimp only
  refine wpAny_bind (wpAny_tryCatch (wpAny_holding (wpAny_bind (wpAny_pyHash_tuple hu1 hx ?_))))
  refine wpAny_bind (find_T (s := { s with toks := s.toks + (k.length + 1) }) (es := es) (ep := ep) (t := t) (L := L) R hx hu1 fun r hr => ?_)
  refine wpAny_pure ?_
  show wpAny _ _ (ret (Value.bool r.isSome)) _ _ _
  rw [hr]
  exact wpAny_pure ⟨_, rfl, wpAny_truthy_bool (wpAny_pure ⟨.bl _, H, I.tok _, rfl, q⟩)⟩
/-- told.add(k) -/
def rAddT (K : PySem.W.Frag) (P : Program) (w : World) : V → List V → Hp → VK → Prop := fun x xs H Q => ∃ (b D : Addr) (L : List (Addr × List Int)) (k : List Int), x = .ref D ∧ xs = [.ref b] ∧ SqT K H b (k.map V.int) ∧ H D = some (SetTO P w D L) ∧ TL K H L ∧ L.length + 1 < 64 ∧
  ∀ L', (k ∈ L.map (·.2) → L' = L) → (k ∉ L.map (·.2) → L'.Perm ((b, k) :: L)) → Q .non (upd H D (SetTO P w D L'))
theorem mt_addT (hu : X.A.units + 64 < cLine) : MtR X "set.add" (rAddT X.K X.prog X.w) := by
  intro pins s σ H x xs v us Q I rx rxs h
  obtain ⟨b, D, L, k, rfl, rfl, hb, hD, hL, few, q⟩ := h
  cases rx
  cases rxs with
  | cons ry rt =>
    cases rt
    cases ry
    exact addT_ok I hu hD hL hb few fun s' L' c1 c2 I' => ⟨.non, _, I', rfl, q L' c1 c2⟩
end
end K18

/-! {elt for ..}, elt a tuple of ints: after HandS.SetBool's road for truth values. -/
namespace K18
open PySem PySem.Spec PyProof.Rows L2 PpSet
section
variable {X : Cx}
/-- {elt for target in iter if ..}, elt a tuple of ints: D the new set -/
def tScT (P : Program) (w : World) (K : PySem.W.Frag) (wi : TI) (g : TG) (tt : TT) (te : TE) (vs : List Nat) : TE := fun σ H Q => wi σ H fun J H1 => ∀ D, H1 D = none → ∃ W : Nat → Nat → Hp → Prop, (∃ m, W 0 m (upd H1 D (SetTO P w D []))) ∧ ∀ i m H, W i m H →
  (J.stop i H ∧ Q (.ref D) H) ∨ (J.go i H ∧ ∃ Nx : Hp → Prop, (∀ H', Nx H' → ∃ m', m' < m ∧ W (i + 1) m' H') ∧ ∀ x H', J.yld i H x H' → g x (wipe σ vs) H' fun σ2 H2 => wipe σ2 vs = wipe σ vs ∧ tt σ2 H2 fun b H3 =>
    if b = true then te σ2 H3 fun y H4 => ∃ (bb : Addr) (kk : List Int) (L : List (Addr × List Int)), y = .ref bb ∧ SqT K H4 bb (kk.map V.int) ∧ H4 D = some (SetTO P w D L) ∧ TL K H4 L ∧ L.length + 1 < 64 ∧ ∀ L', (kk ∈ L.map (·.2) → L' = L) → (kk ∉ L.map (·.2) → L'.Perm ((bb, kk) :: L)) → Nx (upd H4 D (SetTO P w D L')) else Nx H3)
theorem scT_core {pins : List (Addr × Obj)} {s : Shared} {σ : L2.St} {H : Hp} {Q : VK} {elt tg iter : Expr} {ifs : List Expr} {scope : Scope} {own : List (PySem.Str × Nat)} {pos pos' : Pos} {wi : TI} {g : TG} {tt : TT} {te : TE} {use : Option (Value → Sem Unit)} {Qf : Value → Shared → Prop}
    (hu : X.A.units + 64 < cLine) (hc : X.calm = true) (hN : X.N.Nodup) (I : Inv X pins σ H s) (hi : PI X tg iter wi) (ok : BlkOk X.N X.env.scope scope own)
    (hg : ∀ (s : Shared) (H : Hp) (C : Addr) (cl : List (PySem.Str × Addr)) (fp : List Addr), PG (X.blk s H scope (compEnvC scope cl C X.env) fp) tg g) (ht : ∀ (s : Shared) (H : Hp) (C : Addr) (cl : List (PySem.Str × Addr)) (fp : List Addr), PTs (X.blk s H scope (compEnvC scope cl C X.env) fp) ifs tt)
    (he : ∀ (s : Shared) (H : Hp) (C : Addr) (cl : List (PySem.Str × Addr)) (fp : List Addr), PE (X.blk s H scope (compEnvC scope cl C X.env) fp) elt te) (hs : ∀ x, foldedSetIterable iter X.env x = pure x)
    (h : tScT X.prog X.w X.K wi g tt te (own.map (·.2)) σ H Q)
    (hRR : ∀ D C s' m H', Inv X pins σ H' s' → Q (.ref D) H' → s'.heap.Ns C m → FpOk X pins H' C → compPost (model X.prog X.w) X.A X.xe use Qf (.ref D) C (.ok .next) s') :
    wpAny (model X.prog X.w) X.A (comprehension (.SetComp elt [⟨tg, iter, ifs, 0⟩] scope pos) scope X.env pos' (newSet (.type "set")) false (eval iter X.env) use) Qf X.xe s := by
  have fre : ∀ y ∈ scope.names, y.2 = .free → ∃ c, X.env.cells.lookup y.1 = some c := fun y hy e => by
    rcases ok.free y hy e with k | k
    · exact I.ok.has _ (.inl k)
    · exact I.ok.has _ (.inr k)
  refine wpAny_comprehension_free (use := use) rfl hs (closure_ok fre) ok.kind (fun y hy e => by rw [ok.uniq y hy, e])
    (thn (hi.run pins s σ H _ I h) fun xv s1 hx => thn hx fun itv s2 h2 => ?_)
  obtain ⟨it, fp, tt0, J, H2, e, Ia, T, z2, k2, q⟩ := h2
  subst e
  refine newSet_ok (newEnv_comp ?_)
  generalize eD : s2.heap.objs.size = D
  have nD : H2 D = none := Ia.hok.fresh (Nat.le_of_eq eD)
  obtain ⟨W, ⟨mm, ww⟩, trn⟩ := q D nD
  -- the new list
  generalize es3 : ({ s2 with heap := s2.heap.push { cls := .type "set", dict := none, data := .set #[] 0 (.fresh 0 0 (!X.w.params.followText "set-order")) } } : Shared) = s3
  have Ib : Inv X pins σ (upd H2 D (SetTO X.prog X.w D [])) s3 := by
    rw [← es3]
    refine Ia.laid (t' := s2.toks) (fun b o e => Heap.get?_push_of_some _ e) (Nat.le_of_eq eD) ?_
    rw [← eD]
    exact setTO_new (setTR_fresh (Heap.get?_push_size _ rfl)).t0
  have g3 : s3.heap = s2.heap.push { cls := .type "set", dict := none, data := .set #[] 0 (.fresh 0 0 (!X.w.params.followText "set-order")) } := by rw [← es3]
  have sz : ∀ b ∈ fp, b < s2.heap.objs.size := fun b hb => by
    obtain ⟨o, e, _⟩ := T.obj _ _ z2 b hb
    exact Heap.lt_size e
  have k3 : ∀ b ∈ fp, FpOk X pins (upd H2 D (SetTO X.prog X.w D [])) b ∧ b < s3.heap.objs.size := fun b hb => by
    have lt0 := sz b hb
    refine ⟨⟨?_, (k2 b hb).2⟩, by rw [g3, Heap.size_push]; exact Nat.lt_succ_of_lt lt0⟩
    rw [upd_ne (by rw [← eD]; exact Nat.ne_of_lt lt0)]
    exact (k2 b hb).1
  have z3 : tt0 0 s3.heap := T.keep _ _ _ z2 fun b _ o e => by rw [g3]; exact Heap.get?_push_of_some _ e
  have Ic := block_start Ib ok hN k3
  have qg := hg s3 (upd H2 D (SetTO X.prog X.w D [])) s3.heap.objs.size (cellsFrom (s3.heap.objs.size + 1) scope.names (cloFrom X.env.cells scope.names [])) fp
  have qt := ht s3 (upd H2 D (SetTO X.prog X.w D [])) s3.heap.objs.size (cellsFrom (s3.heap.objs.size + 1) scope.names (cloFrom X.env.cells scope.names [])) fp
  have qe := he s3 (upd H2 D (SetTO X.prog X.w D [])) s3.heap.objs.size (cellsFrom (s3.heap.objs.size + 1) scope.names (cloFrom X.env.cells scope.names [])) fp
  show codeAny _ _ (.compStart (.SetComp elt [⟨tg, iter, ifs, 0⟩] scope pos) 0 (.ref it) (.ref D) (compEnvC scope (cellsFrom (s3.heap.objs.size + 1) scope.names (cloFrom X.env.cells scope.names [])) s3.heap.objs.size X.env)) (compPost (model X.prog X.w) X.A X.xe use Qf (.ref D) s3.heap.objs.size) { s3 with heap := pushCells (s3.heap.push { cls := .type "dict", data := .dict #[] }) scope.names }
  have nf : ∀ b ∈ fp, (upd H2 D (SetTO X.prog X.w D [])) b = none := fun b hb => (k3 b hb).1.1
  generalize ece : compEnvC scope (cellsFrom (s3.heap.objs.size + 1) scope.names (cloFrom X.env.cells scope.names [])) s3.heap.objs.size X.env = ce at Ic qg qt qe ⊢
  have eL : ce.locals = s3.heap.objs.size := by subst ece; rfl
  generalize eH3 : upd H2 D (SetTO X.prog X.w D []) = H3 at Ib Ic qg qt qe ww nf k3
  generalize es4 : ({ s3 with heap := pushCells (s3.heap.push { cls := .type "dict", data := .dict #[] }) scope.names } : Shared) = s4 at Ic ⊢
  have z4 : tt0 0 s4.heap := T.keep _ _ _ z3 fun b _ o e => by rw [← es4]; exact pushCells_keeps _ _ _ _ (Heap.get?_push_of_some _ e)
  have stt : ∀ {σ' : L2.St} {H' : Hp} {s' : Shared}, Inv (X.blk s3 H3 scope ce fp) [] σ' H' s' → (∀ b ∈ fp, H' b = none) → ∀ b ∈ fp, FpOk (X.blk s3 H3 scope ce fp) [] H' b := fun {σ' H' s'} I' hn b hb =>
    ⟨hn b hb, (I'.ok.exf b hb).1, I'.ok.exfs b hb, .inl hb, fun x c e => (I'.ok.exf b hb).2 x c e, fun p hp => absurd (show p ∈ ([] : List (Addr × Obj)) ++ [] from hp) (by simp)⟩
  have lp : codeAny (model X.prog X.w) X.A (.compLoop (.SetComp elt [⟨tg, iter, ifs, 0⟩] scope pos) 0 (.ref it) (.ref D) ce) (compPost (model X.prog X.w) X.A X.xe use Qf (.ref D) s3.heap.objs.size) s4 := by
    refine compLoopS_any (fun n s' => ∃ i H', Inv (X.blk s3 H3 scope ce fp) [] (wipe σ (own.map (·.2))) H' s' ∧ tt0 i s'.heap ∧ (∀ b ∈ fp, H' b = none) ∧ W i n H') ?_ mm ⟨0, H3, Ic, z4, nf, ww⟩
    rintro n s5 ⟨i, H5, Id, z5, m5, v5⟩
    rcases trn i n H5 v5 with ⟨stop, qq⟩ | ⟨go, Nx, hNx, step⟩
    · have tdn := T.done (X.blk s3 H3 scope ce fp) rfl rfl rfl hc i [] s5 _ H5 (fun _ _ => False) Id (stt Id m5) z5 stop
      refine thnF tdn fun r s6 ⟨hr, Ie⟩ => ?_
      subst hr
      -- back in the def's context
      have If : Inv X pins σ H5 s6 := Ib.call' (ch := fp) Ie.os Ie.base Ie.hok Ie.bare fun b hb => ⟨(k3 b hb).1.2.2.2.1, (k3 b hb).1.2.1, (k3 b hb).1.2.2.2.2.1, (k3 b hb).1.2.2.2.2.2⟩
      have nCl : H5 s3.heap.objs.size = none := by
        have z : H5 ce.locals = none := Ie.free
        rw [eL] at z
        exact z
      obtain ⟨m, hn, _⟩ := Ie.loc
      have hn : s6.heap.Ns ce.locals m := hn
      rw [eL] at hn
      exact hRR D s3.heap.objs.size s6 m H5 If qq hn (Ib.fpOk (Nat.le_refl _) nCl)
    · have tin := T.item (X.blk s3 H3 scope ce fp) rfl rfl rfl hc i [] s5 _ H5 (fun _ _ => False) Id (stt Id m5) z5 go
      refine thnF tin fun r s6 ⟨u, hr, h6⟩ => ?_
      subst hr
      refine thnF h6 fun _ s7 ⟨x, H7, If, r7, y7, z7, n7⟩ => ?_
      have Ig := If.pinned (stt If n7) (T.obj _ _ z7)
      refine thnF (qg.run _ s7 _ H7 x u _ Ig r7 (step x H7 y7)) fun _ s8 ⟨σ8, H8, Ih, hw8, q8⟩ => ?_
      refine thnF (qt.run _ s8 σ8 H8 _ Ih q8) fun b s9 ⟨H9, Ii, q9⟩ => ?_
      -- the turn's end
      have ends : ∀ {s' : Shared} {H' : Hp}, Inv (X.blk s3 H3 scope ce fp) ([] ++ pinsAt fp s7.heap) σ8 H' s' → Nx H' → ∃ m, m < n ∧ ∃ i H', Inv (X.blk s3 H3 scope ce fp) [] (wipe σ (own.map (·.2))) H' s' ∧ tt0 i s'.heap ∧ (∀ b ∈ fp, H' b = none) ∧ W i m H' := fun {s' H'} I' nx => by
        obtain ⟨m', hm, w'⟩ := hNx H' nx
        have pin2 : ∀ b ∈ fp, ∀ o, s7.heap.get? b = some o → s'.heap.get? b = some o ∧ H' b = none := fun b hb o e =>
          let z := I'.pin (b, o) (List.mem_append_right _ (List.mem_append_right _ (mem_pinsAt hb e)))
          ⟨z.1, z.2.1⟩
        have hl : (wipe σ (own.map (·.2))).length = σ8.length := by rw [← hw8, wipe_length]
        refine ⟨m', hm, i + 1, H', (I'.unpinned (pins := [])).weak hl (fun j v e => ?_), T.keep _ _ _ z7 fun b hb o e => (pin2 b hb o e).1, fun b hb => ?_, w'⟩
        · rw [← hw8] at e
          exact (wipe_some e).1
        · obtain ⟨o, e, _⟩ := T.obj _ _ z7 b hb
          exact (pin2 b hb o e).2
      cases b with
      | false =>
        simp only [Bool.false_eq_true, if_false] at q9 ⊢
        exact ends Ii q9
      | true =>
        simp only [if_true] at q9 ⊢
        refine thnF (qe.run _ s9 σ8 H9 _ Ii q9) fun z s10 ⟨yv, H10, Ij, r10, bb, kk, L0, ey, hb10, hD10, hL10, hf10, nx⟩ => ?_
        subst ey
        cases (show z = Value.ref bb from r10)
        exact addT_ok (X := X.blk s3 H3 scope ce fp) Ij hu hD10 hL10 hb10 hf10 fun s11 L1 c1 c2 Ik => ends Ik (nx L1 c1 c2)
  exact codeAny_compStart_set lp (T.self X.A 0 _ _ _ z4 lp)
theorem pe_scT {elt tg iter : Expr} {ifs : List Expr} {scope : Scope} {own : List (PySem.Str × Nat)} {pos : Pos} {wi : TI} {g : TG} {tt : TT} {te : TE} (hu : X.A.units + 64 < cLine) (hc : X.calm = true) (hN : X.N.Nodup) (hi : PI X tg iter wi) (ok : BlkOk X.N X.env.scope scope own)
    (hg : ∀ (s : Shared) (H : Hp) (C : Addr) (cl : List (PySem.Str × Addr)) (fp : List Addr), PG (X.blk s H scope (compEnvC scope cl C X.env) fp) tg g) (ht : ∀ (s : Shared) (H : Hp) (C : Addr) (cl : List (PySem.Str × Addr)) (fp : List Addr), PTs (X.blk s H scope (compEnvC scope cl C X.env) fp) ifs tt)
    (he : ∀ (s : Shared) (H : Hp) (C : Addr) (cl : List (PySem.Str × Addr)) (fp : List Addr), PE (X.blk s H scope (compEnvC scope cl C X.env) fp) elt te) (hs : ∀ x, foldedSetIterable iter X.env x = pure x := by intro _; rfl) :
    PE X (.SetComp elt [⟨tg, iter, ifs, 0⟩] scope pos) (tScT X.prog X.w X.K wi g tt te (own.map (·.2))) := by
  refine ⟨fun pins s σ H Q I h => ?_⟩
  rw [eval_SetComp]
  refine scT_core hu hc hN I hi ok hg ht he hs h fun D C s' m H' I' q hn f => ⟨m, hn, fun h'' sb => ?_⟩
  obtain ⟨f0, f1, k2, k3, f4, f5⟩ := f
  exact ⟨.ref D, H', I'.turned (t' := s'.toks) (fun b o hb e => (sb.2 b hb).trans e) f0 f1 k3 f4 f5, rfl, q⟩
end
end K18

namespace K18
open PySem PySem.Spec PyProof.Rows L2
theorem units_bd {e j : Int} (he : e ≤ 60) (h : j ∈ unitsL e) : 1 ≤ j ∧ j ≤ 60 := by
  unfold unitsL at h
  obtain ⟨h1, _⟩ := List.mem_filter.mp h
  unfold rgL at h1
  obtain ⟨i, hi, rfl⟩ := List.mem_map.mp h1
  have := List.mem_range.mp hi
  omega
theorem units_len {e : Int} (he : e ≤ 60) : (unitsL e).length ≤ 60 := by
  unfold unitsL
  refine Nat.le_trans (List.length_filter_le _ _) ?_
  rw [rgL_len]
  omega
theorem repL_len (r p : List Int) (j : Int) : (repL r p j).length = r.length := by simp [repL]
theorem repL_bd {r p : List Int} {j : Int} (h : r ∈ R14) : ∀ x ∈ repL r p j, 0 ≤ x ∧ x < 60 := by
  intro x hx
  unfold repL at hx
  obtain ⟨i, hi, rfl⟩ := List.mem_map.mp hx
  have g := r14_get h (List.mem_range.mp hi)
  exact ⟨Int.emod_nonneg _ (by omega), Int.lt_of_lt_of_le (Int.emod_lt_of_pos _ (by omega)) (by omega)⟩
section
variable {P : Program} {w : World} {K : PySem.W.Frag} {mg : Str → Option Value} {base : Heap} {f f1 f2 f3 f4 C fI fM : Addr} {fd fd1 fd2 fd3 fd4 : FuncData}
def spKin (K : PySem.W.Frag) : Sp := fun vs H Q _ => ∃ (v u : V) (a : Addr) (r l : List Int), vs = [v, .ref a, u] ∧ TupI K H v r ∧ SqL K H a ((unitsL (ordL r)).map V.int) ∧ TupI K H u l ∧ r ∈ R14 ∧ l ∈ placesL r ∧
  ∀ p ks H', Same H H' → H p = none → H' p = some (.lst (rf ks)) → TL K H' ks → (ks.map (·.2)).Nodup → (∀ q, q ∈ ks.map (·.2) ↔ q ∈ kinS r l) → ks.length < 64 → Q (.ref p) H'
theorem scKin : FnScope ["rings", "units", "label", "j"] ["rings", "units", "label"] (defScope sKin) := ⟨rfl, rfl, rfl, by decide +kernel, rfl, by decide +kernel, by decide +kernel⟩
theorem set_at {K : PySem.W.Frag} {H : Hp} {a D : Addr} {xs : List V} {L : List (Addr × List Int)} {o : HO} (h : SqT K H a xs) (hD : H D = some (SetTO P w D L)) : SqT K (upd H D o) a xs := by
  rcases h with h | h
  · rcases h with h | ⟨u, h⟩
    · exact .inl (.inl (by rw [upd_ne (ne_of h hD (by intro z; cases z))]; exact h))
    · exact .inl (.inr ⟨u, by rw [upd_ne (ne_of h hD (by intro z; cases z))]; exact h⟩)
  · exact .inr h
theorem ok_kin (F : FnP K "kin_of" sKin f fd) (B : Bl mg) (F1 : FnP K "repeated" sRep f1 fd1) (g1 : mg "repeated" = some (.ref f1)) : FnOk P w K mg base CX0 2 f fd ["rings", "units", "label"] (spKin K) := by
  have G1 : FnOk P w K mg base CX0 1 f1 fd1 ["rings", "place", "many"] (spRep K) := ok_rep F1 B
  have b1 : Binds K fd1 ["rings", "place", "many"] [] := F1.bindsN fun _ _ _ _ _ _ us hl => match us, hl with | [_, _, _], _ => rfl
  refine F.ok scKin (fun vs H Q E h => ?_) (fun cdv A outer s H vs Q E hr h => ?_)
  · obtain ⟨v, u, a, r, l, rfl, _⟩ := h
    rfl
  · obtain ⟨v, u, a, r, l, rfl, ⟨b, rfl, hb⟩, ha, ⟨c, rfl, hc⟩, h14, hl, k⟩ := h
    refine ⟨_, PSs.nox (pss_one (ps_ret (pe_callB (cr_sortedT rfl) (by rfl) (B "sorted" (by decide +kernel)) (by decide +kernel) (pa_cons
      (pe_scT (own := [("j", 3)]) (g := gName 3) (tt := tYes) (te := tCall (spRep K) [] E0 (tCons (tVar 0) (tCons (tVar 2) (tCons (tVar 3) tNil)))) hr.units rfl scKin.nd (pi_list (pv 1)) (blkOk_by (own := [("j", 3)]) (N := ["rings", "units", "label", "j"]) (sc := defScope sKin) (by decide +kernel))
        (fun _ _ _ _ _ => pg_name (i := 3) scKin.nd rfl (Or.inl rfl)) (fun _ _ _ _ _ => pts_nil) (fun _ _ _ _ _ => pe_call G1 hr rfl g1 F1.kp b1 .nil pass0 (pa_cons (pv 0) (pa_cons (pv 2) (pa_cons (pv 3) pa_nil))))) pa_nil)))), ?_⟩
    have eb := e12_bd _ (e12_in r h14)
    have ul := units_len (e := ordL r) (by omega)
    refine ⟨_, rfl, a, rfl, ⟨_, ha⟩, fun D hD => ?_⟩
    refine out_list (K := K) (a := a) (xs := (unitsL (ordL r)).map V.int) (fun i H2 => Same H H2 ∧ ∃ L, H2 D = some (SetTO P w D L) ∧ TL K H2 L ∧ L.length ≤ i ∧ (L.map (·.2)).Nodup ∧ (∀ q, q ∈ L.map (·.2) ↔ q ∈ ((unitsL (ordL r)).take i).map fun j => repL r l j)) ⟨same_upd hD, [], upd_same, tl_nil, Nat.le_refl _, List.nodup_nil, fun q => by simp⟩ (fun i H2 _ ⟨s2, _⟩ => s2.seq ha) ?_ ?_
    · rintro i y H2 hi ⟨s2, L, h2, t2, l2, n2, m2⟩
      obtain ⟨j, rfl, hj⟩ := getI hi
      have jb := units_bd (by omega) (List.mem_of_getElem? hj)
      have il := ltL hj
      refine ⟨rfl, _, rfl, _, rfl, _, rfl, _, _, r, l, j, rfl, ⟨b, rfl, s2.tup hb⟩, ⟨c, rfl, s2.tup hc⟩, h14, r14_whole h14 hl, by omega, by omega, fun t H3 s3 nt h3 => ?_⟩
      refine ⟨t, repL r l j, L, rfl, SqT.of h3, s3 _ _ h2, s3.tl t2, by omega, fun L' c1 c2 => ⟨same_at (s2.trans s3) hD, L', upd_same, ?_, ?_, ?_, ?_⟩⟩
      all_goals
        rcases Classical.em (repL r l j ∈ L.map (·.2)) with cc | cc
      · rw [c1 cc]
        exact fun p hp => set_at ((s3.tl t2) p hp) (s3 _ _ h2)
      · intro p hp
        rcases List.mem_cons.mp ((c2 cc).mem_iff.mp hp) with z | z
        · rw [z]
          exact set_at (SqT.of h3) (s3 _ _ h2)
        · exact set_at ((s3.tl t2) p z) (s3 _ _ h2)
      · rw [c1 cc]
        omega
      · rw [(c2 cc).length_eq, List.length_cons]
        omega
      · rw [c1 cc]
        exact n2
      · exact ((c2 cc).map (·.2)).nodup_iff.mpr (List.nodup_cons.mpr ⟨cc, n2⟩)
      · intro q
        rw [c1 cc, m2, takeS hj, List.map_append, List.mem_append]
        refine ⟨.inl, fun z => z.elim id fun z => ?_⟩
        rw [List.mem_singleton.mp z, ← m2]
        exact cc
      · intro q
        rw [((c2 cc).map (·.2)).mem_iff, List.map_cons, List.mem_cons, m2, takeS hj, List.map_append, List.mem_append]
        refine ⟨fun z => z.elim (fun e => .inr (List.mem_singleton.mpr e)) .inl, fun z => z.elim .inr fun e => .inl (List.mem_singleton.mp e)⟩
    · rintro H2 ⟨s2, L, h2, t2, l2, n2, m2⟩
      rw [List.length_map, List.take_length] at m2
      rw [List.length_map] at l2
      have hn := r14_len r h14
      refine ⟨D, L, r.length, 64, rfl, h2, t2, hn.1, fun p hp => ?_, fun L' p pm nd few pw hp => ?_⟩
      · have z := (m2 p.2).mp (List.mem_map_of_mem hp)
        obtain ⟨j, hj, e⟩ := List.mem_map.mp z
        rw [← e]
        refine ⟨repL_len _ _ _, fun x hx => ?_⟩
        have := repL_bd h14 x hx
        omega
      · refine k p L' _ (same_new s2 hp) (s2.free hp) upd_same (fun q hq => (same_upd hp).tup (t2 q (pm.mem_iff.mp hq))) nd (fun q => ?_) few
        rw [(pm.map (·.2)).mem_iff, m2]
        rfl
end
end K18

namespace K18
open PySem PySem.Spec PyProof.Rows L2
theorem cnt_len (r : List Int) (e : Int) (x : List Int) (ps : List (List Int)) : (cntL r e x ps).length = e.toNat := by simp [cntL]
theorem cnt_nil (r : List Int) (e : Int) (x : List Int) : cntL r e x [] = List.replicate e.toNat 0 := by
  unfold cntL
  refine List.ext_getElem (by simp) fun i h1 h2 => ?_
  simp
theorem cnt_snoc {r : List Int} {e : Int} {x : List Int} {ps : List (List Int)} {q : List Int} {j : Nat} (hj : pairL r e x q = (j : Int)) : cntL r e x (ps ++ [q]) = (cntL r e x ps).set j ((cntL r e x ps).getD j 0 + 1) := by
  refine List.ext_getElem (by rw [cnt_len, List.length_set, cnt_len]) fun i h1 h2 => ?_
  rw [cnt_len] at h1
  rw [List.getElem_set]
  have g : ∀ (i : Nat) (qs : List (List Int)) (h : i < (cntL r e x qs).length), (cntL r e x qs)[i] = ((qs.countP fun q => decide (pairL r e x q = (i : Int)) : Nat) : Int) := fun i qs h => by
    simp [cntL]
  rw [g]
  by_cases h : j = i
  · subst h
    rw [if_pos rfl, List.getD_eq_getElem?_getD, List.getElem?_eq_getElem (by rw [cnt_len]; exact h1), List.countP_append]
    simp only [Option.getD_some]
    rw [g]
    simp [hj]
  · rw [if_neg h, g, List.countP_append]
    have : ¬ pairL r e x q = (i : Int) := fun z => h (by rw [hj] at z; omega)
    simp [this]
theorem pair_bd (r : List Int) {e : Int} (he : 0 < e) (x q : List Int) : 0 ≤ pairL r e x q ∧ pairL r e x q < e := ⟨Int.emod_nonneg _ (by omega), Int.emod_lt_of_pos _ he⟩
theorem e12_poly : ∀ e ∈ E12, 2 ≤ (polyL e).length ∧ (polyL e).length ≤ e.toNat ∧ ∀ d ∈ polyL e, -1000 ≤ d ∧ d ≤ 1000 := by decide +kernel
theorem redL_len {xs dv : List Int} (h1 : 2 ≤ dv.length) (h2 : dv.length ≤ xs.length) : 1 ≤ (redL xs dv).length := by
  unfold redL
  rw [List.length_append, divL_len (by omega) h2]
  omega
/-- the class sum -/
def csV (r l x : List Int) : Int := csL r (ordL r) (polyL (ordL r)) (canL r l) x
theorem cnt_perm {r : List Int} {e : Int} {x : List Int} {ps qs : List (List Int)} (h : ps.Perm qs) : cntL r e x ps = cntL r e x qs := by
  unfold cntL
  refine List.map_congr_left fun i _ => ?_
  rw [h.countP_eq]
theorem nodup_perm : ∀ {l m : List (List Int)}, l.Nodup → m.Nodup → (∀ q, q ∈ l ↔ q ∈ m) → l.Perm m
  | [], m, _, _, h => by
    cases m with
    | nil => exact .refl _
    | cons a r => exact absurd ((h a).mpr List.mem_cons_self) (by simp)
  | a :: l, m, h1, h2, h => by
    obtain ⟨n1, n2⟩ := List.nodup_cons.mp h1
    have ha := (h a).mp List.mem_cons_self
    refine (List.Perm.cons a (nodup_perm n2 (h2.erase a) fun q => ?_)).trans (List.perm_cons_erase ha).symm
    rw [h2.mem_erase_iff, ← h q, List.mem_cons]
    exact ⟨fun z => ⟨fun e => n1 (e ▸ z), .inr z⟩, fun z => z.2.resolve_left z.1⟩
/-- q is a place of the rings if it is as long and within them -/
theorem mem_step {ps : List (List Int)} {len : Int} {q : List Int} : q ∈ plStep ps len ↔ ∃ p ∈ ps, ∃ x : Int, 0 ≤ x ∧ x < len ∧ q = p ++ [x] := by
  unfold plStep rgL
  simp only [List.mem_flatMap, List.mem_map, List.mem_range]
  constructor
  · rintro ⟨p, hp, x, ⟨i, hi, rfl⟩, rfl⟩
    exact ⟨p, hp, 0 + (i : Int), by omega, by omega, rfl⟩
  · rintro ⟨p, hp, x, h1, h2, rfl⟩
    exact ⟨p, hp, x, ⟨x.toNat, by omega, by omega⟩, rfl⟩
theorem mem_fold : ∀ (r : List Int) (ps : List (List Int)) (p t : List Int), p ∈ ps → t.length = r.length → (∀ i, i < r.length → 0 ≤ t.getD i 0 ∧ t.getD i 0 < r.getD i 0) → p ++ t ∈ r.foldl plStep ps
  | [], ps, p, t, hp, hl, _ => by
    have : t = [] := List.length_eq_zero_iff.mp hl
    rw [this, List.append_nil]
    exact hp
  | n :: r, ps, p, [], hp, hl, _ => by simp at hl
  | n :: r, ps, p, x :: t, hp, hl, hb => by
    have h0 := hb 0 (by simp)
    have z := mem_fold r (plStep ps n) (p ++ [x]) t (mem_step.mpr ⟨p, hp, x, by simpa using h0.1, by simpa using h0.2, rfl⟩) (by simpa using hl) fun i hi => by
      have := hb (i + 1) (by simp; omega)
      simpa using this
    simpa using z
theorem repL_in {r p : List Int} {j : Int} (h : r ∈ R14) : repL r p j ∈ placesL r := by
  have z := mem_fold r [[]] [] (repL r p j) (by simp) (repL_len _ _ _) fun i hi => by
    have g := r14_get h hi
    have e : (repL r p j).getD i 0 = p.getD i 0 * j % r.getD i 0 := by
      unfold repL
      rw [List.getD_eq_getElem?_getD, List.getElem?_map, List.getElem?_range hi]
      rfl
    rw [e]
    exact ⟨Int.emod_nonneg _ (by omega), Int.emod_lt_of_pos _ (by omega)⟩
  have z2 : repL r p j ∈ r.foldl plStep [[]] := by simpa using z
  exact z2
theorem r14_nodup : ∀ r ∈ R14, (placesL r).Nodup := by decide +kernel
theorem can_perm {r l : List Int} {ps : List (List Int)} (h : r ∈ R14) (hn : ps.Nodup) (hm : ∀ q, q ∈ ps ↔ q ∈ kinS r l) : ps.Perm (canL r l) := by
  refine nodup_perm hn ((r14_nodup r h).filter _) fun q => ?_
  unfold canL
  rw [hm, List.mem_filter]
  refine ⟨fun z => ⟨?_, decide_eq_true z⟩, fun z => of_decide_eq_true z.2⟩
  obtain ⟨j, _, rfl⟩ := List.mem_map.mp z
  exact repL_in h
section
variable {P : Program} {w : World} {K : PySem.W.Frag} {mg : Str → Option Value} {base : Heap} {f f1 f2 f3 f4 C fI fM : Addr} {fd fd1 fd2 fd3 fd4 fdM : FuncData}
def spSumT (K : PySem.W.Frag) (C : Addr) : Sp := fun vs H Q _ => ∃ (p a : Addr) (u : V) (r x : List Int) (ks : List (Addr × List Int)), vs = [.ref p, .ref a, u] ∧ FloorAt K C H p r ∧ H a = some (.lst (rf ks)) ∧ TL K H ks ∧ (∀ q ∈ ks, q.2 ∈ placesL r) ∧ ks.length < 64 ∧ TupI K H u x ∧ x ∈ placesL r ∧ r ∈ R14 ∧
  ∀ H', Same H H' → Q (.int (csL r (ordL r) (polyL (ordL r)) (ks.map (·.2)) x)) H'
theorem scSumT : FnScope ["floor", "labels", "place", "many", "label"] ["floor", "labels", "place"] (defScope sSumT) := ⟨rfl, rfl, rfl, by decide +kernel, rfl, by decide +kernel, by decide +kernel⟩
theorem ok_sumT (F : FnP K "_sum_of_turns" sSumT f fd) (B : Bl mg) (T : FlT K mg C fI fM) (FM : FunD K "pairing_of" "Floor.pairing_of" (defArgs sFPair) (defBody sFPair) (defScope sFPair) [] [] fM fdM) (GM : FnOk P w K mg base CX0 2 fM fdM ["self", "place", "label"] (spFPair K C))
    (F1 : FnP K "reduced" sRed f1 fd1) (g1 : mg "reduced" = some (.ref f1)) (G1 : FnOk P w K mg base CX0 2 f1 fd1 ["items", "polynomial"] (spRed K)) : FnOk P w K mg base CX0 3 f fd ["floor", "labels", "place"] (spSumT K C) := by
  have bM : Binds K fdM ["self", "place", "label"] [] := FM.bindsN fun _ _ _ _ _ _ us hl => match us, hl with | [_, _, _], _ => rfl
  have b1 : Binds K fd1 ["items", "polynomial"] [] := F1.bindsN fun _ _ _ _ _ _ us hl => match us, hl with | [_, _], _ => rfl
  refine F.ok scSumT (fun vs H Q E h => ?_) (fun cdv A outer s H vs Q E hr h => ?_)
  · obtain ⟨p, a, u, r, x, ks, rfl, _⟩ := h
    rfl
  · obtain ⟨p, a, u, r, x, ks, rfl, hF, ha, tk, mk, few, ⟨c, rfl, hc⟩, hx, h14, k⟩ := h
    refine ⟨_, PSs.nox (pss_cons (ps_set (i := 3) scSumT.nd rfl (Or.inl rfl) (pe_op op_rep (pe_lst (pa_cons pe_int pa_nil)) (pe_fld (pv 0) rfl)))
      (pss_cons (ps_for PassesOwn.never rfl (pi_list (pv 1)) (pg_name (i := 4) scSumT.nd rfl (Or.inl rfl))
        (pss_one (ps_augS (pv 3) (pe_meth (pv 0) T.cl T.mt GM hr bM .nil pass0 (pa_cons (pv 2) (pa_cons (pv 4) pa_nil))) get_list pe_int ip_add set_list)))
      (pss_one (ps_ret (pe_ix ix_tup (pe_call G1 hr rfl g1 F1.kp b1 .nil pass0 (pa_cons (pv 3) (pa_cons (pe_fld (pv 0) rfl) pa_nil))) pe_int (fun _ _ => rfl)))))), ?_⟩
    have eb := e12_bd _ (e12_in r h14)
    have ep := e12_poly _ (e12_in r h14)
    obtain ⟨dx, ar, po, pl, d, h1, h2, h3⟩ := id hF
    refine ⟨by show 1 ≤ sizeLine; decide, fun z hz => ?_⟩
    have sz : Same H (upd H z (.lst [.int 0])) := same_upd hz
    refine ⟨_, rfl, p, C, dx, _, _, rfl, sz _ _ h1, T.cl, T.aO, g_order, z, _, _, rfl, rfl, upd_same, by omega, by omega, sl_1000 (by simp; omega), fun D hD => ?_⟩
    rw [rep_flat]
    have nD : H D = none := sz.free hD
    have s1 : Same H (upd (upd H z (.lst [.int 0])) D (.lst (List.replicate (ordL r).toNat (V.int 0)))) := same_new sz hD
    refine ⟨_, rfl, a, rfl, ⟨_, SqL.of (s1 _ _ ha)⟩, for_list (K := K) (a := a) (xs := rf ks) (fun i σ H2 => ∃ u, σ = [some (.ref p), some (.ref a), some (.ref c), some (.ref D), u] ∧ Same H H2 ∧ H2 D = some (.lst ((cntL r (ordL r) x ((ks.map (·.2)).take i)).map V.int))) ⟨none, rfl, s1, ?_⟩ (fun i σ H2 _ ⟨_, _, s2, _⟩ => SqL.of (s2 _ _ ha)) ?_ ?_⟩
    · rw [upd_same, List.take_zero, cnt_nil]
      simp
    · rintro i y σ H2 hi ⟨u, rfl, s2, h2'⟩
      obtain ⟨q, rfl, hq⟩ := getR hi
      have hqm := List.mem_of_getElem? hq
      have bd := pair_bd r (e := ordL r) (by omega) x q.2
      obtain ⟨j, hj⟩ := Int.eq_ofNat_of_zero_le bd.1
      have cl := cnt_len r (ordL r) x ((ks.map (·.2)).take i)
      have hq2 : (ks.map (·.2))[i]? = some q.2 := by rw [List.getElem?_map, hq]; rfl
      refine ⟨_, rfl, _, rfl, p, dx, _, rfl, s2 _ _ h1, g_no, _, rfl, _, rfl, p, _, _, r, x, q.2, rfl, s2.floor hF, ⟨c, rfl, s2.tup hc⟩, ⟨q.1, rfl, s2.tup (tk q hqm)⟩, h14, hx, mk q hqm, ?_⟩
      refine ⟨D, _, j, _, rfl, by rw [hj], SqL.of h2', getD_of (by rw [cl]; omega), _, _, rfl, rfl, D, _, _, j, rfl, rfl, h2', ?_, _, rfl, same_at s2 nD, ?_⟩
      · rw [hj, List.length_map, cl]
        exact ixN_nat (by omega)
      · rw [upd_same, takeS hq2, cnt_snoc hj, List.map_set]
    · rintro σ H2 ⟨u, rfl, s2, h2'⟩
      have et : (ks.map (·.2)).take (rf ks).length = ks.map (·.2) := by
        rw [List.length_map, List.take_of_length_le (by rw [List.length_map]; exact Nat.le_refl _)]
      rw [et] at h2'
      have cl := cnt_len r (ordL r) x (ks.map (·.2))
      refine ⟨_, rfl, _, rfl, p, C, dx, _, _, rfl, s2 _ _ h1, T.cl, T.aP, g_poly, D, po, _, _, rfl, SqL.of h2', s2.tup h3, ep.1, by omega, by omega, by omega, ep.2.2, fun t H3 s3 nt h4 => ?_⟩
      have rl := redL_len (xs := cntL r (ordL r) x (ks.map (·.2))) ep.1 (by rw [cl]; exact ep.2.1)
      exact ⟨t, _, _, _, rfl, rfl, SqT.of h4, atI_nat (j := 0) (getD_of (by omega)), k H3 (s2.trans s3)⟩
end
end K18

namespace K18
open PySem PySem.Spec PyProof.Rows L2
section
variable {X : Cx}
def rSet0T (P : Program) (w : World) : List V → Hp → VK → Prop := fun xs H Q => xs = [] ∧ ∀ p, H p = none → Q (.ref p) (upd H p (SetTO P w p []))
theorem cr_set0T : CallR X (.type "set") (rSet0T X.prog X.w) := by
  intro pins s σ H xs us Q I r h
  obtain ⟨rfl, q⟩ := h
  cases r
  refine setR_new fun _ => ?_
  exact ⟨.ref _, upd H s.heap.objs.size (SetTO X.prog X.w s.heap.objs.size []), I.laid (t' := s.toks) (fun b u e => Heap.get?_push_of_some _ e) (Nat.le_refl _) (setTO_new (setTR_fresh (Heap.get?_push_size _ rfl)).t0), rfl, q _ (I.hok.fresh (Nat.le_refl _))⟩
def tAddT (P : Program) (w : World) (K : PySem.W.Frag) (to : TE) (t : TA) : TE := fun σ H Q => to σ H fun x H1 => (∃ a L, x = V.ref a ∧ H1 a = some (SetTO P w a L) ∧ TL K H1 L) ∧ t σ H1 fun xs H2 => rAddT K P w x xs H2 Q
variable {o e : Expr} {es : List Expr} {to : TE} {t : TA} {apos cpos : Pos}
theorem pe_addT (hu : X.A.units + 64 < cLine) (ho : PE X o to) (ha : PA X (e :: es) t)
    (h1 : attributeBase o "add" X.env (eval o X.env) = eval o X.env := by rfl)
    (h2 : ((backTo cpos (starEach (e :: es) X.env)).all (fun x => !x.1) && (backToKw cpos (keywordEach [] X.env)).all (fun x => x.1.isSome) && decide ((e :: es).length + ([] : List Keyword).length + (if ([] : List Keyword).isEmpty then 0 else 1) < 30)) = true := by rfl)
    (h3 : (apos.endLine == cpos.line) = true := by rfl) (h4 : starEach (e :: es) X.env = (false, eval e X.env) :: starEach es X.env := by rfl) (h5 : (backTo cpos (starEach es X.env)).any (·.1) = false := by rfl) :
    PE X (.Call (.Attribute o "add" apos) (e :: es) [] cpos) (tAddT X.prog X.w X.K to t) := by
  refine ⟨fun pins s σ H Q I h => wpAny_Call_method_late h1 h2 h3 rfl (thn (ho.run pins s σ H _ I h) fun v s1 ⟨x, H1, I1, r1, ty, q1⟩ => ?_)⟩
  obtain ⟨a, L, rfl, hka, tl⟩ := ty
  obtain ⟨es0, ep0, t0, R⟩ := full_of I1 hka tl
  obtain ⟨ob, ho', hex, _⟩ := R.ob
  cases r1
  refine ⟨"set", "set.add", F.plainAttrs_set, F.slot_set_add, F.type_set_add, ⟨ob, ho', hex.1⟩, fun b ee => ?_, ?_⟩
  · injection ee with ee
    subst ee
    exact ⟨ob, ho', hex.2.1⟩
  · have hA := ha.run cpos pins s1 σ H1 _ I1 q1
    rw [h4] at hA ⊢
    refine Calls.callWith_builtin (by show (false || (backTo cpos (starEach es X.env)).any (·.1)) = false; rw [h5]; rfl) (Calls.evalArgs_plain ?_)
    exact thn hA fun us s2 ⟨vs, H2, I2, r2, q2⟩ => mt_addT hu pins s2 σ H2 (.ref a) vs (.ref a) us Q I2 rfl r2 q2
end
section
variable {P : Program} {w : World} {K : PySem.W.Frag} {mg : Str → Option Value} {base : Heap} {f f1 f2 f3 f4 f5 C fI fM : Addr} {fd fd1 fd2 fd3 fd4 fd5 fdM fdI : FuncData}
def spClSum (K : PySem.W.Frag) : Sp := fun vs H Q _ => ∃ (v u z : V) (r l x : List Int), vs = [v, u, z] ∧ TupI K H v r ∧ TupI K H u l ∧ TupI K H z x ∧ r ∈ R14 ∧ l ∈ placesL r ∧ x ∈ placesL r ∧ ∀ H', Same H H' → Q (.int (csV r l x)) H'
theorem scClSum : FnScope ["rings", "label", "place", "floor"] ["rings", "label", "place"] (defScope sClSum) := ⟨rfl, rfl, rfl, by decide +kernel, rfl, by decide +kernel, by decide +kernel⟩
theorem ok_clSum (F : FnP K "class_sum" sClSum f fd) (T : FlT K mg C fI fM) (FI : FunD K "__init__" "Floor.__init__" (defArgs sFInit) (defBody sFInit) (defScope sFInit) [] [] fI fdI) (GI : FnOk P w K mg base CX0 3 fI fdI ["self", "rings"] (spFInit K C))
    (F1 : FnP K "check_place" sChkP f1 fd1) (g1 : mg "check_place" = some (.ref f1)) (G1 : FnOk P w K mg base CX0 5 f1 fd1 ["rings", "place"] (spChkP K)) (F2 : FnP K "_sum_of_turns" sSumT f2 fd2) (g2 : mg "_sum_of_turns" = some (.ref f2)) (G2 : FnOk P w K mg base CX0 3 f2 fd2 ["floor", "labels", "place"] (spSumT K C))
    (F3 : FnP K "kin_of" sKin f3 fd3) (g3 : mg "kin_of" = some (.ref f3)) (G3 : FnOk P w K mg base CX0 2 f3 fd3 ["rings", "units", "label"] (spKin K)) (F4 : FnP K "units_of" sUnits f4 fd4) (g4 : mg "units_of" = some (.ref f4)) (G4 : FnOk P w K mg base CX0 1 f4 fd4 ["order"] spUnits) :
    FnOk P w K mg base CX0 6 f fd ["rings", "label", "place"] (spClSum K) := by
  have bI : Binds K fdI ["self", "rings"] [] := FI.bindsN fun _ _ _ _ _ _ us hl => match us, hl with | [_, _], _ => rfl
  have b1 : Binds K fd1 ["rings", "place"] [] := F1.bindsN fun _ _ _ _ _ _ us hl => match us, hl with | [_, _], _ => rfl
  have b2 : Binds K fd2 ["floor", "labels", "place"] [] := F2.bindsN fun _ _ _ _ _ _ us hl => match us, hl with | [_, _, _], _ => rfl
  have b3 : Binds K fd3 ["rings", "units", "label"] [] := F3.bindsN fun _ _ _ _ _ _ us hl => match us, hl with | [_, _, _], _ => rfl
  have b4 : Binds K fd4 ["order"] [] := F4.bindsN fun _ _ _ _ _ _ us hl => match us, hl with | [_], _ => rfl
  refine F.ok scClSum (fun vs H Q E h => ?_) (fun cdv A outer s H vs Q E hr h => ?_)
  · obtain ⟨v, u, z, r, l, x, rfl, _⟩ := h
    rfl
  · obtain ⟨v, u, z, r, l, x, rfl, ⟨a, rfl, ha⟩, ⟨b, rfl, hb⟩, ⟨c, rfl, hc⟩, h14, hl, hx, k⟩ := h
    refine ⟨_, PSs.nox (pss_cons (ps_expr (pe_call G1 hr rfl g1 F1.kp b1 .nil pass0 (pa_cons (pv 0) (pa_cons (pv 1) pa_nil))))
      (pss_cons (ps_expr (pe_call G1 hr rfl g1 F1.kp b1 .nil pass0 (pa_cons (pv 0) (pa_cons (pv 2) pa_nil))))
      (pss_cons (ps_set (i := 3) scClSum.nd rfl (Or.inl rfl) (pe_make T.mkk GI (hr.mono (by decide)) rfl T.mgC bI .nil pass0 (pa_cons (pv 0) pa_nil)))
      (pss_one (ps_ret (pe_call G2 (hr.mono (by decide)) rfl g2 F2.kp b2 .nil pass0 (pa_cons (pv 3) (pa_cons (pe_call G3 (hr.mono (by decide)) rfl g3 F3.kp b3 .nil pass0 (pa_cons (pv 0) (pa_cons (pe_call G4 (hr.mono (by decide)) rfl g4 F4.kp b4 .nil pass0 (pa_cons (pe_fld (pv 3) rfl) pa_nil)) (pa_cons (pv 1) pa_nil)))) (pa_cons (pv 2) pa_nil))))))))), ?_⟩
    have eb := e12_bd _ (e12_in r h14)
    refine ⟨_, rfl, _, rfl, _, _, r, l, rfl, ⟨a, rfl, ha⟩, ⟨b, rfl, hb⟩, h14, hl, fun H1 s1 => ?_⟩
    refine ⟨_, rfl, _, rfl, _, _, r, x, rfl, ⟨a, rfl, s1.tup ha⟩, ⟨c, rfl, s1.tup hc⟩, h14, hx, fun H2 s2 => ?_⟩
    have t2 := s1.trans s2
    refine ⟨_, rfl, fun p dx np ndx nex => ?_⟩
    have tn : Same H2 (upd (upd H2 dx (.own p)) p (.ins C dx [])) := same_new (same_upd ndx) (by rw [upd_ne (Ne.symm nex)]; exact np)
    refine ⟨p, dx, _, r, rfl, upd_same, ⟨a, rfl, tn.tup (t2.tup ha)⟩, h14, fun H3 hF kp => ⟨rfl, ?_⟩⟩
    have s3 : Same H2 H3 := Same.made np ndx kp
    have t3 := t2.trans s3
    obtain ⟨dx', ar, po, pl, d, h1, h2, h3⟩ := id hF
    refine ⟨_, rfl, _, rfl, _, rfl, p, C, dx', _, _, rfl, h1, T.cl, T.aO, g_order, _, rfl, by omega, by omega, fun q H4 s4 nq h4 => ?_⟩
    have t4 := t3.trans s4
    refine ⟨_, rfl, _, _, q, r, l, rfl, ⟨a, rfl, t4.tup ha⟩, SqL.of h4, ⟨b, rfl, t4.tup hb⟩, h14, hl, fun kl ks H5 s5 nk h5 tk nd mk few => ?_⟩
    have t5 := t4.trans s5
    refine ⟨_, rfl, p, kl, _, r, x, ks, rfl, (s4.trans s5).floor hF, h5, tk, fun y hy => ?_, few, ⟨c, rfl, t5.tup hc⟩, hx, h14, fun H6 s6 => ?_⟩
    · obtain ⟨j, _, e⟩ := List.mem_map.mp ((mk y.2).mp (List.mem_map_of_mem hy))
      rw [← e]
      exact repL_in h14
    · have e : csL r (ordL r) (polyL (ordL r)) (ks.map (·.2)) x = csV r l x := by
        unfold csV csL
        rw [cnt_perm (can_perm h14 nd mk)]
      rw [e]
      exact k H6 (t5.trans s6)
end
end K18

namespace K18
open PySem PySem.Spec PyProof.Rows L2
theorem nodup_len : ∀ (l D : List (List Int)), l.Nodup → (∀ x ∈ l, x ∈ D) → l.length ≤ D.length
  | [], _, _, _ => Nat.zero_le _
  | x :: l, D, hn, hs => by
    obtain ⟨h1, h2⟩ := List.nodup_cons.mp hn
    have hx : x ∈ D := hs x List.mem_cons_self
    have ih := nodup_len l (D.erase x) h2 fun y hy => (List.mem_erase_of_ne (fun e => h1 (by rw [← e]; exact hy))).2 (hs y (List.mem_cons_of_mem _ hy))
    have e := List.length_erase_of_mem hx
    have hp : 0 < D.length := List.length_pos_of_mem hx
    rw [List.length_cons]
    omega
theorem r14_n {r : List Int} (h : r ∈ R14) : (placesL r).length ≤ 60 := by
  have z := r14_pl r h r.length (List.mem_range.mpr (Nat.lt_succ_self _))
  rw [List.take_length] at z
  exact z
/-- all but D and F as it was -/
def Keep2 (D F : Addr) (H H' : Hp) : Prop := ∀ b o, H b = some o → b ≠ D → b ≠ F → H' b = some o
section
variable {K : PySem.W.Frag} {P : Program} {w : World} {H H' : Hp} {D F : Addr} {L : List (Addr × List Int)} {ys : List V}
theorem Keep2.tup {a : Addr} {xs : List V} (k : Keep2 D F H H') (hD : H D = some (SetTO P w D L)) (hF : H F = some (.lst ys)) (h : SqT K H a xs) : SqT K H' a xs := by
  rcases h with h | h
  · rcases h with h | ⟨u, h⟩
    · exact .inl (.inl (k _ _ h (ne_of h hD (by intro z; cases z)) (ne_of h hF (by intro z; cases z))))
    · exact .inl (.inr ⟨u, k _ _ h (ne_of h hD (by intro z; cases z)) (ne_of h hF (by intro z; cases z))⟩)
  · exact .inr h
theorem Keep2.tl {ks : List (Addr × List Int)} (k : Keep2 D F H H') (hD : H D = some (SetTO P w D L)) (hF : H F = some (.lst ys)) (h : TL K H ks) : TL K H' ks := fun p hp => k.tup hD hF (h p hp)
theorem Keep2.refl : Keep2 D F H H := fun _ _ e _ _ => e
theorem Keep2.trans {H1 : Hp} (a : Keep2 D F H H1) (b : Keep2 D F H1 H') : Keep2 D F H H' := fun c o e h1 h2 => b c o (a c o e h1 h2) h1 h2
theorem Keep2.of (s : Same H H') : Keep2 D F H H' := fun b o e _ _ => s b o e
theorem Keep2.atD {o : HO} : Keep2 D F H (upd H D o) := fun b u e h _ => by rw [upd_ne h]; exact e
theorem Keep2.atF {o : HO} : Keep2 D F H (upd H F o) := fun b u e _ h => by rw [upd_ne h]; exact e
end
/-- v is a tuple of the places of the class of l -/
def Good (K : PySem.W.Frag) (H : Hp) (r : List Int) (v : V) (l : List Int) : Prop := ∃ (q : Addr) (ks : List (Addr × List Int)), v = .ref q ∧ SqT K H q (rf ks) ∧ TL K H ks ∧ ks ≠ [] ∧ ∀ y ∈ ks.map (·.2), y ∈ canL r l
def Goods (K : PySem.W.Frag) (H : Hp) (r : List Int) (vs : List V) (ls : List (List Int)) : Prop := vs.length = ls.length ∧ ∀ (i : Nat) v l, vs[i]? = some v → ls[i]? = some l → Good K H r v l
theorem Goods.mono {K : PySem.W.Frag} {H H' : Hp} {r : List Int} {vs : List V} {ls : List (List Int)} (g : Goods K H r vs ls) (k : ∀ (a : Addr) xs, SqT K H a xs → SqT K H' a xs) : Goods K H' r vs ls := ⟨g.1, fun i v l e1 e2 => by
  obtain ⟨q, ks, rfl, h1, h2, h3, h4⟩ := g.2 i v l e1 e2
  exact ⟨q, ks, rfl, k _ _ h1, fun p hp => k _ _ (h2 p hp), h3, h4⟩⟩
theorem Goods.snoc {K : PySem.W.Frag} {H : Hp} {r : List Int} {vs : List V} {ls : List (List Int)} {v : V} {l : List Int} (g : Goods K H r vs ls) (h : Good K H r v l) : Goods K H r (vs ++ [v]) (ls ++ [l]) := by
  refine ⟨by rw [List.length_append, List.length_append, g.1]; rfl, fun i v' l' e1 e2 => ?_⟩
  rcases Nat.lt_or_ge i vs.length with z | z
  · rw [List.getElem?_append_left z] at e1
    rw [List.getElem?_append_left (by rw [← g.1]; exact z)] at e2
    exact g.2 i v' l' e1 e2
  · have e := ltL e1
    rw [List.length_append] at e
    have e0 : i = vs.length := by simp at e; omega
    subst e0
    rw [List.getElem?_concat_length] at e1
    rw [g.1, List.getElem?_concat_length] at e2
    cases e1
    cases e2
    exact h
theorem self_in {r l : List Int} (h : r ∈ R14) (hl : l ∈ placesL r) : l ∈ kinS r l := by
  refine List.mem_map.mpr ⟨1, ?_, ?_⟩
  · have e := e12_bd _ (e12_in r h)
    unfold unitsL
    refine List.mem_filter.mpr ⟨List.mem_map.mpr ⟨0, List.mem_range.mpr (by omega), rfl⟩, decide_eq_true ?_⟩
    unfold gcdI
    simp
  · have hw := r14_whole h hl
    refine List.ext_getElem (by rw [repL_len, hw]) fun i h1 h2 => ?_
    rw [repL_len] at h1
    have b := r14_bd r h l hl i (List.mem_range.mpr h1)
    have e1 : l.getD i 0 = l[i] := by rw [List.getD_eq_getElem?_getD, List.getElem?_eq_getElem h2]; rfl
    have e2 : (repL r l 1)[i]'(by rw [repL_len]; exact h1) = l.getD i 0 * 1 % r.getD i 0 := by simp [repL]
    rw [e2, Int.mul_one, Int.emod_eq_of_lt b.1 b.2, e1]
section
variable {P : Program} {w : World} {K : PySem.W.Frag} {mg : Str → Option Value} {base : Heap} {f f1 f2 f3 f4 f5 : Addr} {fd fd1 fd2 fd3 fd4 fd5 : FuncData}
def spClasses (K : PySem.W.Frag) : Sp := fun vs H Q _ => ∃ (v : V) (r : List Int), vs = [v] ∧ TupI K H v r ∧ r ∈ R14 ∧ ∀ t vs H', Same H H' → SqT K H' t vs → Goods K H' r vs (repsL r) → Q (.ref t) H'
theorem scClasses : FnScope ["rings", "units", "told", "found", "label", "kin", "one"] ["rings"] (defScope sClasses) := ⟨rfl, rfl, rfl, by decide +kernel, rfl, by decide +kernel, by decide +kernel⟩
theorem ok_classes (F : FnP K "classes" sClasses f fd) (B : Bl mg) (F1 : FnP K "check_rings" sChkR f1 fd1) (g1 : mg "check_rings" = some (.ref f1)) (G1 : FnOk P w K mg base CX0 4 f1 fd1 ["rings"] (spNon K)) (F2 : FnP K "order_of" sOrdOf f2 fd2) (g2 : mg "order_of" = some (.ref f2)) (G2 : FnOk P w K mg base CX0 5 f2 fd2 ["rings"] (spOrder K))
    (F3 : FnP K "kin_of" sKin f3 fd3) (g3 : mg "kin_of" = some (.ref f3)) (G3 : FnOk P w K mg base CX0 2 f3 fd3 ["rings", "units", "label"] (spKin K)) (F4 : FnP K "units_of" sUnits f4 fd4) (g4 : mg "units_of" = some (.ref f4)) (G4 : FnOk P w K mg base CX0 1 f4 fd4 ["order"] spUnits)
    (F5 : FnP K "list_places" sPlaces f5 fd5) (g5 : mg "list_places" = some (.ref f5)) (G5 : FnOk P w K mg base CX0 1 f5 fd5 ["rings"] (spPlaces K)) : FnOk P w K mg base CX0 6 f fd ["rings"] (spClasses K) := by
  have b1 : Binds K fd1 ["rings"] [] := F1.bindsN fun _ _ _ _ _ _ us hl => match us, hl with | [_], _ => rfl
  have b2 : Binds K fd2 ["rings"] [] := F2.bindsN fun _ _ _ _ _ _ us hl => match us, hl with | [_], _ => rfl
  have b3 : Binds K fd3 ["rings", "units", "label"] [] := F3.bindsN fun _ _ _ _ _ _ us hl => match us, hl with | [_, _, _], _ => rfl
  have b4 : Binds K fd4 ["order"] [] := F4.bindsN fun _ _ _ _ _ _ us hl => match us, hl with | [_], _ => rfl
  have b5 : Binds K fd5 ["rings"] [] := F5.bindsN fun _ _ _ _ _ _ us hl => match us, hl with | [_], _ => rfl
  refine F.ok scClasses (fun vs H Q E h => ?_) (fun cdv A outer s H vs Q E hr h => ?_)
  · obtain ⟨v, r, rfl, _⟩ := h
    rfl
  · obtain ⟨v, r, rfl, ⟨a, rfl, ha⟩, h14, k⟩ := h
    refine ⟨_, PSs.nox (pss_cons (ps_expr (pe_call G1 (hr.mono (by decide)) rfl g1 F1.kp b1 .nil pass0 (pa_cons (pv 0) pa_nil)))
      (pss_cons (ps_set (i := 1) scClasses.nd rfl (Or.inl rfl) (pe_call G4 (hr.mono (by decide)) rfl g4 F4.kp b4 .nil pass0 (pa_cons (pe_call G2 hr rfl g2 F2.kp b2 .nil pass0 (pa_cons (pv 0) pa_nil)) pa_nil)))
      (pss_cons (ps_set (i := 2) scClasses.nd rfl (Or.inl rfl) (pe_callTy0 cr_set0T (by rfl) (B "set" (by decide +kernel)) (by decide +kernel)))
      (pss_cons (ps_set (i := 3) scClasses.nd rfl (Or.inl rfl) (pe_lst pa_nil))
      (pss_cons (ps_for PassesOwn.never rfl (pi_list (pe_call G5 (hr.mono (by decide)) rfl g5 F5.kp b5 .nil pass0 (pa_cons (pv 0) pa_nil))) (pg_name (i := 4) scClasses.nd rfl (Or.inl rfl))
        (pss_one (ps_if (pt_cmpR (or_notInT hr.units) (pv 4) (pv 2) rfl)
          (pss_cons (ps_set (i := 5) scClasses.nd rfl (Or.inl rfl) (pe_call G3 (hr.mono (by decide)) rfl g3 F3.kp b3 .nil pass0 (pa_cons (pv 0) (pa_cons (pv 1) (pa_cons (pv 4) pa_nil)))))
          (pss_cons (ps_expr (pe_bm PySem.F.plainAttrs_list PySem.F.slot_list_append PySem.F.type_list_append mt_append (pv 3) (pa_cons (pe_callTy call_tuple_of (by rfl) (B "tuple" (by decide +kernel)) (by decide +kernel) (pa_cons (pv 5) pa_nil)) pa_nil)))
          (pss_one (ps_for PassesOwn.never rfl (pi_list (pv 5)) (pg_name (i := 6) scClasses.nd rfl (Or.inl rfl)) (pss_one (ps_expr (pe_addT hr.units (pv 2) (pa_cons (pv 6) pa_nil))))))))
          pss_nil)))
      (pss_one (ps_ret (pe_callTy call_tuple_of (by rfl) (B "tuple" (by decide +kernel)) (by decide +kernel) (pa_cons (pv 3) pa_nil))))))))), ?_⟩
    have eb := e12_bd _ (e12_in r h14)
    refine ⟨_, rfl, _, r, rfl, ⟨a, rfl, ha⟩, h14, fun H1 s1 => ?_⟩
    refine ⟨_, rfl, _, r, rfl, ⟨a, rfl, s1.tup ha⟩, h14, fun H2 s2 => ⟨_, rfl, by omega, by omega, fun U H3 s3 nU h3 => ?_⟩⟩
    refine ⟨rfl, fun D hD => ?_⟩
    refine ⟨by decide, fun L0 hL => ?_⟩
    have t3 : Same H H3 := (s1.trans s2).trans s3
    have sD : Same H3 (upd H3 D (SetTO P w D [])) := same_upd hD
    have sL := same_new (o := HO.lst []) sD hL
    have nD : H D = none := t3.free hD
    have nL : H L0 = none := t3.free (sD.free hL)
    have nDL : D ≠ L0 := ne_of_none upd_same hL
    refine ⟨_, rfl, _, r, rfl, ⟨a, rfl, (t3.trans sL).tup ha⟩, h14, fun pl H4 s4 np h4 => ?_⟩
    obtain ⟨ks, hk, em, tk⟩ := h4
    have t4 : Same H H4 := (t3.trans sL).trans s4
    have hU4 : H4 U = some (.lst ((unitsL (ordL r)).map V.int)) := s4 _ _ (sL _ _ h3)
    refine ⟨pl, rfl, ⟨_, SqL.of hk⟩, for_list (K := K) (a := pl) (xs := rf ks) (fun i σ H5 => ∃ (u4 u5 u6 : Option V) (L : List (Addr × List Int)) (told out : List (List Int)) (vs : List V), σ = [some (.ref a), some (.ref U), some (.ref D), some (.ref L0), u4, u5, u6] ∧ Keep2 D L0 H4 H5 ∧ H5 D = some (SetTO P w D L) ∧ TL K H5 L ∧ (L.map (·.2)).Nodup ∧ (∀ q ∈ L.map (·.2), q ∈ placesL r) ∧ (∀ q, q ∈ L.map (·.2) ↔ q ∈ told) ∧ H5 L0 = some (.lst vs) ∧ Goods K H5 r vs out ∧ out.length ≤ i ∧ repsGo r ((placesL r).drop i) told out = repsL r)
      ⟨none, none, none, [], [], [], [], rfl, Keep2.refl, s4 _ _ (by rw [upd_ne nDL]; exact upd_same), tl_nil, List.nodup_nil, fun q hq => absurd hq (by simp), fun q => Iff.rfl, s4 _ _ upd_same, ⟨rfl, fun i v l e1 _ => by simp at e1⟩, Nat.le_refl _, rfl⟩ (fun i σ H5 _ ⟨_, _, _, _, _, _, _, _, k5, _⟩ => SqL.of (k5 _ _ hk (fun z => by rw [z] at np; exact absurd upd_same (by rw [upd_ne nDL] at np; rw [np]; simp)) (fun z => by rw [z] at np; rw [upd_same] at np; cases np))) ?_ ?_⟩
    · rintro i y σ H5 hi ⟨u4, u5, u6, L, told, out, vs, rfl, k5, hD5, tL, nd, mp, mt, hL5, gd, lo, rg⟩
      obtain ⟨q, rfl, hq⟩ := getR hi
      have hqm := List.mem_of_getElem? hq
      have hq2 := map_get em hq
      have hqp : q.2 ∈ placesL r := List.mem_of_getElem? hq2
      have edrop : (placesL r).drop i = q.2 :: (placesL r).drop (i + 1) := by
        rw [List.drop_eq_getElem_cons (ltL hq2)]
        congr 1
        exact (List.getElem?_eq_some_iff.mp hq2).2
      rw [edrop] at rg
      have hD4 : H4 D = some (SetTO P w D []) := s4 _ _ (by rw [upd_ne nDL]; exact upd_same)
      have hL4 : H4 L0 = some (.lst []) := s4 _ _ upd_same
      have tq : SqT K H5 q.1 (q.2.map V.int) := k5.tup hD4 hL4 (tk q hqm)
      have Llen : L.length ≤ 60 := by
        have z := nodup_len _ _ nd mp
        rw [List.length_map] at z
        exact Nat.le_trans z (r14_n h14)
      have ilt : i < 60 := Nat.lt_of_lt_of_le (ltL hq2) (r14_n h14)
      refine ⟨_, rfl, _, rfl, q.1, D, L, q.2, rfl, rfl, tq, hD5, tL, _, rfl, ?_⟩
      refine ite2 (fun c => ?_) (fun c => ?_)
      · have c1 : q.2 ∉ L.map (·.2) := by simpa using c
        have c2 : q.2 ∉ told := fun z => c1 ((mt _).mpr z)
        have hU5 : H5 U = some (.lst ((unitsL (ordL r)).map V.int)) := k5 _ _ hU4 (ne_of hU4 hD4 (by intro z; cases z)) (fun z => by
          rw [z] at h3
          have e := hL.symm.trans (sD _ _ h3)
          cases e)
        have ta5 : SqT K H5 a (r.map V.int) := k5.tup hD4 hL4 (t4.tup ha)
        refine ⟨_, rfl, _, rfl, _, rfl, _, _, U, r, q.2, rfl, ⟨a, rfl, ta5⟩, SqL.of hU5, ⟨q.1, rfl, tq⟩, h14, hqp, fun kl ks' H6 s6 nk h6 tk6 nd6 mk6 few6 => ?_⟩
        have hL6 := s6 _ _ hL5
        have vl : vs.length ≤ 60 := by rw [gd.1]; omega
        refine ⟨_, rfl, Or.inl ⟨rfl, _, SqL.of hL6⟩, _, rfl, kl, _, rfl, .inl ⟨SqL.of h6, fun tp ntp => ?_⟩⟩
        have s7 : Same H6 (upd H6 tp (.tup (rf ks'))) := same_upd ntp
        refine ⟨L0, _, _, rfl, rfl, s7 _ _ hL6, sl_lt (by omega), ?_⟩
        generalize hH8 : upd (upd H6 tp (.tup (rf ks'))) L0 (.lst (vs ++ [V.ref tp])) = H8
        have k58 : Keep2 D L0 H5 H8 := by
          rw [← hH8]
          exact (Keep2.of (s6.trans s7)).trans Keep2.atF
        have hD8 : H8 D = some (SetTO P w D L) := by rw [← hH8, upd_ne nDL]; exact s7 _ _ (s6 _ _ hD5)
        have hL8 : H8 L0 = some (.lst (vs ++ [V.ref tp])) := by rw [← hH8, upd_same]
        have mv : ∀ (b : Addr) xs, SqT K (upd H6 tp (.tup (rf ks'))) b xs → SqT K H8 b xs := fun b xs z => by
          rw [← hH8]
          exact sqt_at z (s7 _ _ hL6)
        have hk8 : H8 kl = some (.lst (rf ks')) := by
          rw [← hH8, upd_ne (ne_of_none hL5 nk).symm]
          exact s7 _ _ h6
        have tk8 : TL K H8 ks' := fun p hp => mv _ _ (s7.tup (tk6 p hp))
        have cm : ∀ y, y ∈ ks'.map (·.2) ↔ y ∈ canL r q.2 := fun y => (can_perm h14 nd6 mk6).mem_iff
        have ne6 : ks' ≠ [] := fun z => by
          have := (mk6 q.2).mpr (self_in h14 hqp)
          rw [z] at this
          cases this
        have gd8 : Goods K H8 r (vs ++ [V.ref tp]) (out ++ [q.2]) := (gd.mono fun b xs z => mv _ _ (s7.tup (s6.tup z))).snoc ⟨tp, ks', rfl, mv _ _ (SqT.of upd_same), tk8, ne6, fun y hy => (cm y).mp hy⟩
        have rg2 : repsGo r ((placesL r).drop (i + 1)) (told ++ canL r q.2) (out ++ [q.2]) = repsL r := by
          rw [← rg]
          show _ = (if decide (q.2 ∈ told) = true then _ else _)
          rw [if_neg (by simpa using c2)]
        refine ⟨_, rfl, kl, rfl, ⟨_, SqL.of hk8⟩, for_list (K := K) (a := kl) (xs := rf ks') (fun m σ H9 => ∃ (u6 : Option V) (L' : List (Addr × List Int)), σ = [some (.ref a), some (.ref U), some (.ref D), some (.ref L0), some (.ref q.1), some (.ref kl), u6] ∧ Keep2 D L0 H8 H9 ∧ H9 D = some (SetTO P w D L') ∧ TL K H9 L' ∧ (L'.map (·.2)).Nodup ∧ (∀ q ∈ L'.map (·.2), q ∈ placesL r) ∧ (∀ y, y ∈ L'.map (·.2) ↔ y ∈ told ∨ y ∈ (ks'.map (·.2)).take m) ∧ H9 L0 = some (.lst (vs ++ [V.ref tp])))
          ⟨u6, L, rfl, Keep2.refl, hD8, k58.tl hD5 hL5 tL, nd, mp, fun y => by simp [mt], hL8⟩ (fun m σ H9 _ ⟨_, _, _, k9, _⟩ => SqL.of (k9 _ _ hk8 (fun z => by rw [z] at hk8; rw [hD8] at hk8; cases hk8) (fun z => by rw [z] at nk; rw [hL5] at nk; cases nk))) ?_ ?_⟩
        · rintro m y σ H9 hm ⟨u6', L', rfl, k9, hD9, tL9, nd9, mp9, mt9, hL9⟩
          obtain ⟨z, rfl, hz⟩ := getR hm
          have hz2 : (ks'.map (·.2))[m]? = some z.2 := by rw [List.getElem?_map, hz]; rfl
          have tz : SqT K H9 z.1 (z.2.map V.int) := k9.tup hD8 hL8 (tk8 z (List.mem_of_getElem? hz))
          have zp : z.2 ∈ placesL r := (List.mem_filter.mp ((cm _).mp (List.mem_of_getElem? hz2))).1
          have Ll : L'.length ≤ 60 := by
            have zz := nodup_len _ _ nd9 mp9
            rw [List.length_map] at zz
            exact Nat.le_trans zz (r14_n h14)
          refine ⟨_, rfl, ⟨D, L', rfl, hD9, tL9⟩, _, rfl, z.1, D, L', z.2, rfl, rfl, tz, hD9, tL9, by omega, fun L'' c1' c2' => ?_⟩
          have tL' : TL K (upd H9 D (SetTO P w D L'')) L' := fun p hp => set_at (tL9 p hp) hD9
          have hL' : upd H9 D (SetTO P w D L'') L0 = some (.lst (vs ++ [V.ref tp])) := by rw [upd_ne nDL.symm]; exact hL9
          rcases Classical.em (z.2 ∈ L'.map (·.2)) with cc | cc
          · have e := c1' cc
            subst e
            refine ⟨_, L'', rfl, k9.trans Keep2.atD, upd_same, tL', nd9, mp9, fun y => ?_, hL'⟩
            rw [mt9, takeS hz2, List.mem_append]
            refine ⟨fun w => w.elim .inl fun w => .inr (.inl w), fun w => w.elim .inl fun w => w.elim .inr fun w => ?_⟩
            rw [List.mem_singleton.mp w]
            exact (mt9 _).mp cc
          · have pm := c2' cc
            have pm2 := pm.map (·.2)
            refine ⟨_, L'', rfl, k9.trans Keep2.atD, upd_same, fun p hp => ?_, pm2.nodup_iff.mpr (List.nodup_cons.mpr ⟨cc, nd9⟩), fun y hy => ?_, fun y => ?_, hL'⟩
            · rcases List.mem_cons.mp (pm.mem_iff.mp hp) with w | w
              · rw [w]
                exact set_at tz hD9
              · exact tL' p w
            · rcases List.mem_cons.mp (pm2.mem_iff.mp hy) with w | w
              · rw [w]
                exact zp
              · exact mp9 y w
            · rw [pm2.mem_iff, List.map_cons, List.mem_cons, mt9, takeS hz2, List.mem_append, List.mem_singleton]
              exact ⟨fun w => w.elim (fun w => .inr (.inr w)) fun w => w.elim .inl fun w => .inr (.inl w), fun w => w.elim (fun w => .inr (.inl w)) fun w => w.elim (fun w => .inr (.inr w)) .inl⟩
        · rintro σ H9 ⟨u6', L', rfl, k9, hD9, tL9, nd9, mp9, mt9, hL9⟩
          have etk : (ks'.map (·.2)).take (rf ks').length = ks'.map (·.2) := by rw [List.length_map, List.take_of_length_le (by rw [List.length_map]; exact Nat.le_refl _)]
          rw [etk] at mt9
          refine ⟨_, _, _, L', told ++ canL r q.2, out ++ [q.2], _, rfl, (k5.trans k58).trans k9, hD9, tL9, nd9, mp9, fun y => ?_, hL9, gd8.mono fun b xs z => k9.tup hD8 hL8 z, by simp; omega, rg2⟩
          rw [mt9, List.mem_append, cm]
      · have c1 : q.2 ∈ L.map (·.2) := by simpa using c
        have c2 : q.2 ∈ told := (mt _).mp c1
        refine ⟨_, _, _, L, told, out, vs, rfl, k5, hD5, tL, nd, mp, mt, hL5, gd, by omega, ?_⟩
        rw [← rg]
        show _ = (if decide (q.2 ∈ told) = true then _ else _)
        rw [if_pos (decide_eq_true c2)]
    · rintro σ H5 ⟨u4, u5, u6, L, told, out, vs, rfl, k5, hD5, tL, nd, mp, mt, hL5, gd, lo, rg⟩
      have ed : (placesL r).drop (rf ks).length = [] := by rw [List.length_map, ← em, ← List.length_map (f := fun x : Addr × List Int => x.2), List.drop_length]
      rw [ed] at rg
      have eo : out = repsL r := rg
      subst eo
      refine ⟨_, rfl, L0, _, rfl, .inl ⟨SqL.of hL5, fun t ht => ?_⟩⟩
      have s9 : Same H5 (upd H5 t (.tup vs)) := same_upd ht
      refine k t vs _ (fun b o e => ?_) (SqT.of upd_same) (gd.mono fun b xs z => s9.tup z)
      refine s9 _ _ (k5 _ _ (t4 _ _ e) (ne_of_none e nD) (ne_of_none e nL))
end
end K18

/-! The deck: what the law draws by. -/
namespace K18
open PySem PySem.Spec PyProof.Rows L2
abbrev deckKV (l : Addr) (m k : Int) : List (Key × V) := [((.inr "cells" : Key), V.ref l), (.inr "mixed", .int m), (.inr "turn", .int k)]
/-- a deck at d, its cells at l -/
def DeckAt (d l : Addr) (H : Hp) : Prop := ∃ (ns : List Int) (m k : Int), H d = some (.dK (deckKV l m k)) ∧ H l = some (.lst (ns.map V.int)) ∧ ns.length ≤ 63
/-- all else stands as it was -/
def Keeps (d l : Addr) (H H' : Hp) : Prop := ∀ b o, H b = some o → b ≠ d → b ≠ l → H' b = some o
theorem Keeps.refl {d l : Addr} {H : Hp} : Keeps d l H H := fun _ _ e _ _ => e
theorem Keeps.trans {d l : Addr} {H H1 H2 : Hp} (a : Keeps d l H H1) (b : Keeps d l H1 H2) : Keeps d l H H2 := fun c o e h1 h2 => b c o (a c o e h1 h2) h1 h2
theorem Keeps.new {d l p : Addr} {H : Hp} {o : HO} (h : H p = none) : Keeps d l H (upd H p o) := fun b u e _ _ => by
  rw [upd_ne (ne_of_none e h)]
  exact e
theorem Keeps.atD {d l : Addr} {H : Hp} {o : HO} : Keeps d l H (upd H d o) := fun b u e h _ => by
  rw [upd_ne h]
  exact e
theorem Keeps.atL {d l : Addr} {H : Hp} {o : HO} : Keeps d l H (upd H l o) := fun b u e _ h => by
  rw [upd_ne h]
  exact e
theorem DeckAt.new {d l p : Addr} {H : Hp} {o : HO} (D : DeckAt d l H) (h : H p = none) : DeckAt d l (upd H p o) := by
  obtain ⟨ns, m, k, h1, h2, h3⟩ := D
  exact ⟨ns, m, k, by rw [upd_ne (ne_of_none h1 h)]; exact h1, by rw [upd_ne (ne_of_none h2 h)]; exact h2, h3⟩
theorem DeckAt.ne {d l : Addr} {H : Hp} (D : DeckAt d l H) : d ≠ l := by
  obtain ⟨ns, m, k, h1, h2, _⟩ := D
  exact ne_of h1 h2 (by intro z; cases z)
/-- one draw below n -/
def spDraw : Sp := fun vs H Q _ => ∃ (d l : Addr) (n : Int), vs = [.ref d, .int n] ∧ DeckAt d l H ∧ 1 ≤ n ∧ n < 1000000 ∧ ∀ r H', 0 ≤ r → r < n → DeckAt d l H' → Keeps d l H H' → Q (.int r) H'
/-- one of a list's items -/
def spPick (K : PySem.W.Frag) : Sp := fun vs H Q _ => ∃ (d l p : Addr) (xs : List V), vs = [.ref d, .ref p] ∧ DeckAt d l H ∧ H p = some (.lst xs) ∧ p ≠ l ∧ 1 ≤ xs.length ∧ xs.length < 1000000 ∧ ∀ v H', v ∈ xs → DeckAt d l H' → Keeps d l H H' → Q v H'
/-- a deck of a script -/
def spDeck (K : PySem.W.Frag) : Sp := fun vs H Q _ => ∃ (a : Addr) (ns : List Int), vs = [.ref a] ∧ SqL K H a (ns.map V.int) ∧ ns.length ≤ 63 ∧ ∀ d l H', DeckAt d l H' → (∀ b o, H b = some o → H' b = some o) → H d = none → H l = none → Q (.ref d) H'
section
theorem shaped_ints (ns : List Int) : SeqAt.shaped (.list (ns.map PyData.int)) = true := by
  have h1 : PyData.canLayAll0 (ns.map PyData.int) = true := by
    induction ns with
    | nil => rfl
    | cons n r ih => simp [PyData.canLayAll0, PyData.canLay0, ih]
  have h2 : PyData.depthAll (ns.map PyData.int) ≤ 1 := by
    induction ns with
    | nil => simp [PyData.depthAll]
    | cons n r ih =>
      have := ih (by simpa [PyData.canLayAll0, PyData.canLay0] using h1)
      simp only [List.map_cons, PyData.depthAll, PyData.depth]
      omega
  unfold SeqAt.shaped
  rw [Bool.and_eq_true]
  have h3 : (PyData.list (ns.map PyData.int)).depth ≤ 64 := by
    simp only [PyData.depth]
    omega
  exact ⟨by simpa [PyData.canLay0] using h1, decide_eq_true h3⟩
theorem dp_ints {K : PySem.W.Frag} {H : Hp} : ∀ ns : List Int, DpAll K H (ns.map V.int) (ns.map PyData.int)
  | [] => .nil
  | n :: r => .cons (.int n) (dp_ints r)
theorem eqv_nil : ∀ ns : List Int, PyData.eqv (.list (ns.map PyData.int)) (.list []) = decide (ns = []) := by
  intro ns
  cases ns with
  | nil => rfl
  | cons n r => simp [PyData.eqv, PyData.eqvAll]
theorem ne_cm : ¬ (Sum.inr "cells" : Key) = .inr "mixed" := fun z => absurd (Sum.inr.inj z) (by decide +kernel)
theorem ne_cd : ¬ (Sum.inr "cells" : Key) = .inr "turn" := fun z => absurd (Sum.inr.inj z) (by decide +kernel)
theorem ne_md : ¬ (Sum.inr "mixed" : Key) = .inr "turn" := fun z => absurd (Sum.inr.inj z) (by decide +kernel)
theorem val_cells {l : Addr} {m k : Int} : valV (deckKV l m k) (.inr "cells") = some (.ref l) := by
  rw [L2.valV_pos rfl]
theorem val_mixed {l : Addr} {m k : Int} : valV (deckKV l m k) (.inr "mixed") = some (.int m) := by
  rw [L2.valV_neg ne_cm, L2.valV_pos rfl]
theorem val_turn {l : Addr} {m k : Int} : valV (deckKV l m k) (.inr "turn") = some (.int k) := by
  rw [L2.valV_neg ne_cd, L2.valV_neg ne_md, L2.valV_pos rfl]
theorem put_turn {l : Addr} {m k j : Int} : putK (deckKV l m k) (.inr "turn") (.int j) = deckKV l m j := by
  have h1 : ¬ Str.ofString "cells" = Str.ofString "turn" := by decide +kernel
  have h2 : ¬ Str.ofString "mixed" = Str.ofString "turn" := by decide +kernel
  simp [putK, deckKV, h1, h2]
theorem get_cells {H : Hp} {d l : Addr} {m k : Int} (h : H d = some (.dK (deckKV l m k))) : DGet H d (.str "cells") (some (.ref l)) := by
  rw [← val_cells (l := l) (m := m) (k := k)]
  exact DGet.k (k := Sum.inr "cells") h
theorem get_mixed {H : Hp} {d l : Addr} {m k : Int} (h : H d = some (.dK (deckKV l m k))) : DGet H d (.str "mixed") (some (.int m)) := by
  rw [← val_mixed (l := l) (m := m) (k := k)]
  exact DGet.k (k := Sum.inr "mixed") h
theorem get_turn {H : Hp} {d l : Addr} {m k : Int} (h : H d = some (.dK (deckKV l m k))) : DGet H d (.str "turn") (some (.int k)) := by
  rw [← val_turn (l := l) (m := m) (k := k)]
  exact DGet.k (k := Sum.inr "turn") h
theorem put_turnD {H : Hp} {d l : Addr} {m k j : Int} (h : H d = some (.dK (deckKV l m k))) : DPut H d (.str "turn") (.int j) (upd H d (.dK (deckKV l m j))) := by
  rw [← put_turn (l := l) (m := m) (k := k) (j := j)]
  exact DPut.k (k := Sum.inr "turn") h (by show 3 < sizeLine; decide)
end
section
variable {P : Program} {w : World} {K : PySem.W.Frag} {mg : Str → Option Value} {base : Heap} {f fD : Addr} {fd fdD : FuncData}
theorem scDraw : FnScope ["deck", "below", "figure", "cell"] ["deck", "below"] (defScope sDraw) := ⟨rfl, rfl, rfl, by decide +kernel, rfl, by decide +kernel, by decide +kernel⟩
theorem ok_draw (F : FnP K "_law_draw" sDraw f fd) (B : Bl mg) : FnOk P w K mg base CX0 1 f fd ["deck", "below"] spDraw := by
  refine F.ok scDraw (fun vs H Q E h => ?_) (fun cdv A outer s H vs Q E hr h => ?_)
  · obtain ⟨d, l, n, rfl, _⟩ := h
    rfl
  · obtain ⟨d, l, n, rfl, D, hn1, hn2, k⟩ := h
    have hu := hu_of hr
    have dl := D.ne
    have int1 : ∀ X : Cx, X.mg = mg → True := fun _ _ => trivial
    obtain ⟨ns, m, j, h1, h2, h3⟩ := D
    refine ⟨_, pss_cons (ps_dput hu (pv 0) pe_str (pe_op op_add (pe_dget hu (pv 0) pe_str (fun _ _ => rfl)) pe_int) rfl)
      (pss_cons (ps_set (i := 2) scDraw.nd rfl (Or.inl rfl) (pe_op op_add (pe_dget hu (pv 0) pe_str (fun _ _ => rfl)) (pe_op op_mul pe_int (pe_dget hu (pv 0) pe_str (fun _ _ => rfl)))))
      (pss_cons (ps_if (pt_cmpR (op_neD (Nat.lt_of_le_of_lt (Nat.add_le_add_left (by decide : 64 ≤ 64) _) hr.units)) (pe_dget hu (pv 0) pe_str (fun _ _ => rfl)) (pe_lst pa_nil) (nomark _))
          (pss_cons (ps_set (i := 3) scDraw.nd rfl (Or.inl rfl) (pe_bm0 PySem.F.plainAttrs_list PySem.F.slot_list_pop PySem.F.type_list_pop mt_pop (pe_dget hu (pv 0) pe_str (fun _ _ => rfl))))
          (pss_cons (ps_if (pt_cmpR op_ge (pv 3) (pe_op op_pow pe_int pe_int) (nomark _))
              (pss_cons (ps_expr (pe_bm PySem.F.plainAttrs_list PySem.F.slot_list_append PySem.F.type_list_append mt_append (pe_dget hu (pv 0) pe_str (fun _ _ => rfl)) (pa_cons (pe_op op_fdiv (pv 3) (pe_callB (call_max2 rfl) (by rfl) (B "max" (by decide +kernel)) (by decide +kernel) (pa_cons pe_int (pa_cons (pv 1) pa_nil)))) pa_nil)))
              (pss_one (ps_ret (pe_op op_mod (pe_callTy call_int1 (by rfl) (B "int" (by decide +kernel)) (by decide +kernel) (pa_cons (pv 3) pa_nil)) (pv 1)))))
              pss_nil)
          (pss_one (ps_set (i := 2) scDraw.nd rfl (Or.inl rfl) (pe_op op_add (pv 2) (pe_op op_mod (pe_callTy call_int1 (by rfl) (B "int" (by decide +kernel)) (by decide +kernel) (pa_cons (pv 3) pa_nil)) pe_int))))))
          pss_nil)
      (pss_cons (ps_set (i := 2) scDraw.nd rfl (Or.inl rfl) (pe_op op_mod (pe_callTy call_int1 (by rfl) (B "int" (by decide +kernel)) (by decide +kernel) (pa_cons (pe_op op_add (pe_op op_mul (pv 2) pe_int) pe_int) pa_nil)) pe_int))
      (pss_cons (ps_set (i := 2) scDraw.nd rfl (Or.inl rfl) (pe_op op_mod (pe_callTy call_int1 (by rfl) (B "int" (by decide +kernel)) (by decide +kernel) (pa_cons (pe_op op_add (pe_op op_add (pe_op op_mul (pv 2) (pv 2)) (pe_op op_mul pe_int (pe_dget hu (pv 0) pe_str (fun _ _ => rfl)))) pe_int) pa_nil)) pe_int))
      (pss_cons (ps_set (i := 2) scDraw.nd rfl (Or.inl rfl) (pe_op op_mod (pe_callTy call_int1 (by rfl) (B "int" (by decide +kernel)) (by decide +kernel) (pa_cons (pe_op op_mul (pv 2) pe_int) pa_nil)) pe_int))
      (pss_one (ps_ret (pe_op op_mod (pe_callTy call_int1 (by rfl) (B "int" (by decide +kernel)) (by decide +kernel) (pa_cons (pe_op op_fdiv (pv 2) pe_int) pa_nil)) (pv 1))))))))), ?_⟩
    -- deck['draws'] = deck['draws'] + 1
    refine ⟨_, rfl, d, _, rfl, get_turn h1, _, _, rfl, rfl, _, rfl, d, _, rfl, put_turnD h1, ?_⟩
    generalize hH1 : upd H d (.dK (deckKV l m (j + 1))) = H1
    have g1 : H1 d = some (.dK (deckKV l m (j + 1))) := by rw [← hH1, upd_same]
    have g2 : H1 l = some (.lst (ns.map V.int)) := by rw [← hH1, upd_ne dl.symm]; exact h2
    have kp : Keeps d l H H1 := by rw [← hH1]; exact Keeps.atD
    generalize j + 1 = j1 at g1
    -- number = deck['mixed'] + 69621 * deck['draws']
    refine ⟨_, rfl, d, _, rfl, get_mixed g1, _, rfl, d, _, rfl, get_turn g1, _, _, rfl, rfl, Or.inl ⟨by decide, by decide⟩, _, _, rfl, rfl, ?_⟩
    -- if deck['cells'] != []
    refine ⟨_, rfl, d, _, rfl, get_cells g1, (by show 0 ≤ sizeLine; omega), fun p np => ?_⟩
    have npd : d ≠ p := ne_of_none g1 np
    have npl : l ≠ p := ne_of_none g2 np
    have g1' : ∀ o, upd H1 p o d = some (.dK (deckKV l m j1)) := fun o => by rw [upd_ne npd]; exact g1
    have g2' : ∀ o, upd H1 p o l = some (.lst (ns.map V.int)) := fun o => by rw [upd_ne npl]; exact g2
    refine ⟨.list (ns.map PyData.int), .list [], .lst (SqL.of (g2' _)) (dp_ints ns), .lst (SqL.of upd_same) .nil, shaped_ints ns, shaped_ints [], _, rfl, ?_⟩
    rw [eqv_nil]
    have kp1 : Keeps d l H (upd H1 p (.lst [])) := kp.trans (.new np)
    have hn0 : 0 < n := by omega
    have popped : ∀ c : Int, ns ≠ [] → (ns.map V.int)[(ns.map V.int).length - 1]? = some (.int c) → True := fun _ _ _ => trivial
    refine ite2 (fun hne => ?_) (fun he => ?_)
    · have hne' : ns ≠ [] := by
        intro z
        rw [z] at hne
        simp at hne
      have hpos : 0 < ns.length := List.length_pos_iff.mpr hne'
      obtain ⟨c, hc⟩ : ∃ c, (ns.map V.int)[(ns.map V.int).length - 1]? = some (.int c) := by
        rw [List.length_map, List.getElem?_map, List.getElem?_eq_getElem (by omega)]
        exact ⟨_, rfl⟩
      -- cell = deck['cells'].pop()
      refine ⟨_, rfl, d, _, rfl, get_cells (g1' _), Or.inl ⟨rfl, _, SqL.of (g2' _)⟩, l, _, _, rfl, rfl, g2' _, hc, ?_⟩
      generalize hH3 : upd (upd H1 p (.lst [])) l (.lst (ns.map V.int).dropLast) = H3
      have q1 : H3 d = some (.dK (deckKV l m j1)) := by rw [← hH3, upd_ne dl]; exact g1' _
      have q2 : H3 l = some (.lst (ns.dropLast.map V.int)) := by rw [← hH3, upd_same, List.map_dropLast]
      have kp3 : Keeps d l H H3 := by rw [← hH3]; exact kp1.trans .atL
      have hlen : (ns.dropLast).length + 1 ≤ 63 := by rw [List.length_dropLast]; omega
      -- if cell >= 10 ** 18
      refine ⟨_, rfl, _, _, rfl, rfl, ⟨by decide, by decide, by decide⟩, _, _, rfl, rfl, _, rfl, ite2 (fun _ => ?_) (fun _ => ?_)⟩
      · refine ⟨_, rfl, d, _, rfl, get_cells q1, Or.inl ⟨rfl, _, SqL.of q2⟩, _, rfl, _, rfl, _, _, rfl, _, _, rfl, rfl, ⟨by split <;> omega, by split <;> omega⟩, l, _, _, rfl, rfl, q2, small1000 (by rw [List.length_map]; omega), ?_⟩
        refine ⟨_, rfl, Or.inl ⟨_, rfl, _, rfl, _, _, rfl, rfl, hn0, k _ _ (Int.emod_nonneg _ (by omega)) (Int.emod_lt_of_pos _ hn0) ⟨ns.dropLast ++ [c / (if n > 2 then n else 2)], m, j1, by rw [upd_ne dl]; exact q1, by rw [upd_same, List.map_append]; rfl, by rw [List.length_append]; exact hlen⟩ (kp3.trans .atL)⟩⟩
      · refine ⟨_, rfl, _, rfl, Or.inl ⟨_, rfl, _, _, rfl, rfl, (by show (0 : Int) < 2147483399; decide), _, _, rfl, rfl, ?_⟩⟩
        refine ⟨_, rfl, _, _, rfl, rfl, Or.inr ⟨by decide, by decide⟩, _, _, rfl, rfl, Or.inl ⟨_, rfl, _, _, rfl, rfl, (by show (0 : Int) < 2147483563; decide), ?_⟩⟩
        refine ⟨_, rfl, _, rfl, _, _, rfl, rfl, Or.inl ⟨by omega, by omega⟩, _, rfl, d, _, rfl, get_turn q1, _, _, rfl, rfl, Or.inl ⟨by decide, by decide⟩, _, _, rfl, rfl, _, _, rfl, rfl, Or.inl ⟨_, rfl, _, _, rfl, rfl, (by show (0 : Int) < 2147483579; decide), ?_⟩⟩
        refine ⟨_, rfl, _, _, rfl, rfl, Or.inr ⟨by decide, by decide⟩, Or.inl ⟨_, rfl, _, _, rfl, rfl, (by show (0 : Int) < 2147483477; decide), ?_⟩⟩
        exact ⟨_, rfl, _, _, rfl, rfl, ⟨by decide, by decide⟩, Or.inl ⟨_, rfl, _, rfl, _, _, rfl, rfl, hn0, k _ _ (Int.emod_nonneg _ (by omega)) (Int.emod_lt_of_pos _ hn0) ⟨ns.dropLast, m, j1, q1, q2, by omega⟩ kp3⟩⟩
    · refine ⟨_, rfl, _, _, rfl, rfl, Or.inr ⟨by decide, by decide⟩, _, _, rfl, rfl, Or.inl ⟨_, rfl, _, _, rfl, rfl, (by show (0 : Int) < 2147483563; decide), ?_⟩⟩
      refine ⟨_, rfl, _, rfl, _, _, rfl, rfl, Or.inl ⟨by omega, by omega⟩, _, rfl, d, _, rfl, get_turn (g1' _), _, _, rfl, rfl, Or.inl ⟨by decide, by decide⟩, _, _, rfl, rfl, _, _, rfl, rfl, Or.inl ⟨_, rfl, _, _, rfl, rfl, (by show (0 : Int) < 2147483579; decide), ?_⟩⟩
      refine ⟨_, rfl, _, _, rfl, rfl, Or.inr ⟨by decide, by decide⟩, Or.inl ⟨_, rfl, _, _, rfl, rfl, (by show (0 : Int) < 2147483477; decide), ?_⟩⟩
      exact ⟨_, rfl, _, _, rfl, rfl, ⟨by decide, by decide⟩, Or.inl ⟨_, rfl, _, rfl, _, _, rfl, rfl, hn0, k _ _ (Int.emod_nonneg _ (by omega)) (Int.emod_lt_of_pos _ hn0) ⟨ns, m, j1, g1' _, g2' _, h3⟩ kp1⟩⟩
end
end K18

namespace K18
open PySem PySem.Spec PyProof.Rows L2
theorem cut_ints (ns : List Int) (lo hi : Option Int) : ∃ ms : List Int, cutV (ns.map V.int) lo hi = ms.map V.int ∧ ms.length ≤ ns.length := by
  unfold cutV
  rw [← List.map_drop, ← List.map_take]
  exact ⟨_, rfl, by rw [List.length_take, List.length_drop]; omega⟩
section
variable {P : Program} {w : World} {K : PySem.W.Frag} {mg : Str → Option Value} {base : Heap} {f fD : Addr} {fd fdD : FuncData}
theorem scPick : FnScope ["deck", "some"] ["deck", "some"] (defScope sPick) := ⟨rfl, rfl, rfl, by decide +kernel, rfl, by decide +kernel, by decide +kernel⟩
theorem ok_pick (F : FnP K "_law_pick" sPick f fd) (FD : FnP K "_law_draw" sDraw fD fdD) (gD : mg "_law_draw" = some (.ref fD)) (B : Bl mg) : FnOk P w K mg base CX0 2 f fd ["deck", "some"] (spPick K) := by
  have GD : FnOk P w K mg base CX0 1 fD fdD ["deck", "below"] spDraw := ok_draw FD B
  have bD : Binds K fdD ["deck", "below"] [] := FD.bindsN fun _ _ _ _ _ _ us hl => match us, hl with | [_, _], _ => rfl
  refine F.ok scPick (fun vs H Q E h => ?_) (fun cdv A outer s H vs Q E hr h => ?_)
  · obtain ⟨d, l, p, xs, rfl, _⟩ := h
    rfl
  · obtain ⟨d, l, p, xs, rfl, D, hp, hpl, h1, h2, k⟩ := h
    have dp : p ≠ d := by
      obtain ⟨ns, m, j, q, _⟩ := D
      exact ne_of hp q (by intro z; cases z)
    refine ⟨_, PSs.nox (pss_one (ps_ret (pe_ix ix_list (pv 1) (pe_call GD hr rfl gD FD.kp bD .nil pass0 (pa_cons (pv 0) (pa_cons (pe_callB call_len_seq (by rfl) (B "len" (by decide +kernel)) PySem.boot_len (pa_cons (pv 1) pa_nil)) pa_nil))) (fun _ _ => rfl)))), ?_⟩
    refine ⟨_, rfl, _, rfl, _, rfl, p, _, rfl, .inl (SqL.of hp), d, l, _, rfl, D, by omega, by omega, fun r H' r0 r1 D' K' => ?_⟩
    obtain ⟨j, rfl⟩ := Int.eq_ofNat_of_zero_le r0
    have hj : j < xs.length := by omega
    exact ⟨p, _, _, _, rfl, rfl, SqL.of (K' _ _ hp dp hpl), atI_nat (List.getElem?_eq_getElem hj), k _ H' (List.getElem_mem hj) D' K'⟩
theorem scDeck : FnScope ["script", "mixed", "cell"] ["script"] (defScope sDeck) := ⟨rfl, rfl, rfl, by decide +kernel, rfl, by decide +kernel, by decide +kernel⟩
theorem merge_deck (l : Addr) (m k : Int) : mergeK [] (deckKV l m k) = deckKV l m k := rfl
theorem ok_deck (F : FnP K "_law_deck" sDeck f fd) (B : Bl mg) : FnOk P w K mg base CX0 1 f fd ["script"] (spDeck K) := by
  refine F.ok scDeck (fun vs H Q E h => ?_) (fun cdv A outer s H vs Q E hr h => ?_)
  · obtain ⟨a, ns, rfl, _⟩ := h
    rfl
  · obtain ⟨a, ns, rfl, hS, hlen, k⟩ := h
    refine ⟨_, PSs.nox (pss_cons (ps_set (i := 1) scDeck.nd rfl (Or.inl rfl) pe_int)
      (pss_cons (ps_for PassesOwn.never rfl (pi_list (pe_slice sl_list (pv 0) po_none (po_some pe_int))) (pg_name (i := 2) scDeck.nd rfl (Or.inl rfl))
        (pss_one (ps_set (i := 1) scDeck.nd rfl (Or.inl rfl) (pe_op op_mod (pe_callTy call_int1 (by rfl) (B "int" (by decide +kernel)) (by decide +kernel) (pa_cons (pe_op op_add (pe_op op_add (pe_op op_mul (pv 1) pe_int) (pe_op op_mod (pe_callTy call_int1 (by rfl) (B "int" (by decide +kernel)) (by decide +kernel) (pa_cons (pv 2) pa_nil)) pe_int)) pe_int) pa_nil)) pe_int))))
      (pss_one (ps_ret (pe_disp (pps_cons pe_str (pe_revL (pe_lc (own := [("cell", 2)]) (g := gName 2) (tt := tYes) rfl scDeck.nd (pi_list (pe_slice sl_list (pv 0) po_none (po_some pe_int))) (blkOk_by (own := [("cell", 2)]) (N := ["script", "mixed", "cell"]) (sc := defScope sDeck) (by decide +kernel)) (fun _ _ _ _ _ => pg_name (i := 2) scDeck.nd rfl (Or.inl rfl)) (fun _ _ _ _ _ => pts_nil) (fun _ _ _ _ _ => pe_callTy call_int1 (by rfl) (B "int" (by decide +kernel)) (by decide +kernel) (pa_cons (pv 2) pa_nil)))) (pps_cons pe_str (pv 1) (pps_cons pe_str pe_int pps_nil))) (by rfl) (by rfl) (fun z => by cases z) (by decide)))))), ?_⟩
    obtain ⟨ms, hms, hml⟩ := cut_ints ns none (some 63)
    have hm63 : ms.length ≤ 63 := Nat.le_trans hml hlen
    refine ⟨_, rfl, _, rfl, a, _, rfl, hS, fun p np => ?_⟩
    rw [hms]
    have s1 : Same H (upd H p (.lst (ms.map V.int))) := fun b o e => by
      rw [upd_ne (ne_of_none e np)]
      exact e
    generalize hH1 : upd H p (.lst (ms.map V.int)) = H1 at s1
    have hp : H1 p = some (.lst (ms.map V.int)) := by rw [← hH1, upd_same]
    refine ⟨p, rfl, ⟨_, SqL.of hp⟩, for_list (K := K) (a := p) (xs := ms.map V.int) (fun i σ H2 => ∃ (z : Int) (v : Option V), σ = [some (.ref a), some (.int z), v] ∧ H2 = H1) ⟨_, none, rfl, rfl⟩ (fun i σ H2 _ ⟨_, _, _, e⟩ => by rw [e]; exact SqL.of hp) ?_ ?_⟩
    · rintro i y σ H2 hi ⟨z, v, rfl, rfl⟩
      obtain ⟨c, rfl⟩ : ∃ c, y = V.int c := by
        rw [List.getElem?_map] at hi
        cases e : ms[i]? with
        | none =>
          rw [e] at hi
          cases hi
        | some c =>
          rw [e] at hi
          exact ⟨c, (Option.some.inj hi).symm⟩
      refine ⟨_, rfl, _, _, rfl, rfl, Or.inr ⟨by decide, by decide⟩, _, rfl, Or.inl ⟨_, rfl, _, _, rfl, rfl, (by show (0 : Int) < 2147483399; decide), _, _, rfl, rfl, _, _, rfl, rfl, Or.inl ⟨_, rfl, _, _, rfl, rfl, (by show (0 : Int) < 2147483579; decide), ?_⟩⟩⟩
      exact ⟨_, _, rfl, rfl⟩
    · rintro σ H2 ⟨z, v, rfl, rfl⟩
      intro d nd
      refine ⟨_, rfl, _, rfl, a, ns.map V.int, rfl, ?_, fun q nq => ?_⟩
      · have s2 : Same H2 (upd H2 d (.dK [])) := fun b o e => by
          rw [upd_ne (ne_of_none e nd)]
          exact e
        exact s2.seq (s1.seq hS)
      rw [hms]
      generalize hH3 : upd (upd H2 d (.dK [])) q (.lst (ms.map V.int)) = H3
      have s23 : Same H2 H3 := by
        rw [← hH3]
        exact same_new (same_upd nd) nq
      have h3q : H3 q = some (.lst (ms.map V.int)) := by rw [← hH3, upd_same]
      have h3d : H3 d = some (.dK []) := by
        rw [← hH3, upd_ne (ne_of_none (upd_same (H := H2)) nq)]
        exact upd_same
      refine ⟨q, rfl, ⟨_, SqL.of h3q⟩, fun D hD => ?_⟩
      refine lc_list (K := K) (a := q) (xs := ms.map V.int) (fun i H4 => Same H3 H4 ∧ H4 D = some (.lst ((ms.take i).map V.int))) ⟨same_upd hD, by rw [upd_same]; rfl⟩ (fun i H4 _ ⟨s4, _⟩ => SqL.of (s4 _ _ h3q)) ?_ ?_
      · rintro i y H4 hi ⟨s4, h4⟩
        obtain ⟨c, rfl, hc⟩ := getI hi
        refine ⟨rfl, _, rfl, Or.inl ⟨_, rfl, _, h4, sl_lt (by rw [List.length_map]; exact Nat.le_trans (List.length_take_le' _ _) (by omega)), same_at s4 hD, ?_⟩⟩
        rw [upd_same, takeS hc, List.map_append]
        rfl
      · rintro H4 ⟨s4, h4⟩
        rw [List.length_map, List.take_length] at h4
        refine ⟨D, _, rfl, SqL.of h4, fun l nl => ?_⟩
        have h5d : upd H4 l (.lst (ms.map V.int).reverse) d = some (.dK []) := by
          rw [upd_ne (ne_of_none (s4 _ _ h3d) nl)]
          exact s4 _ _ h3d
        have dl : l ≠ d := ne_of (upd_same (H := H4)) h5d (by intro z; cases z)
        refine ⟨_, rfl, h5d, deckKV l z 0, rfl, (by show 3 ≤ 15; decide), ?_⟩
        rw [merge_deck]
        have s15 : Same H (upd H4 l (.lst (ms.map V.int).reverse)) := same_new ((s1.trans s23).trans s4) nl
        refine k d l _ ⟨ms.reverse, z, 0, upd_same, ?_, by rw [List.length_reverse]; exact hm63⟩ (fun b o e => ?_) (s1.free nd) (((s1.trans s23).trans s4).free nl)
        · rw [upd_ne dl, upd_same, List.map_reverse]
        · rw [upd_ne (ne_of_none (s1 b o e) nd)]
          exact s15 b o e
end
end K18

/-! zip of three tuples. -/
namespace K18
open PySem PySem.Spec PyProof.Rows L2
/-- three tuples of one length as they stand at each turn, the items in new tuples -/
def ItZ3 (K : PySem.W.Frag) (a b c : Addr) : It :=
  ⟨fun i H => ∃ (xs ys zs : List V) (x y z : V), SqT K H a xs ∧ SqT K H b ys ∧ SqT K H c zs ∧ xs[i]? = some x ∧ ys[i]? = some y ∧ zs[i]? = some z,
    fun i H v H' => ∃ T x y z, v = .ref T ∧ H T = none ∧ H' = upd H T (.tup [x, y, z]) ∧ (∀ xs, SqT K H a xs → xs[i]? = some x) ∧ (∀ ys, SqT K H b ys → ys[i]? = some y) ∧ ∀ zs, SqT K H c zs → zs[i]? = some z,
    fun i H => ∃ xs ys zs : List V, SqT K H a xs ∧ SqT K H b ys ∧ SqT K H c zs ∧ xs.length = i ∧ ys.length = i ∧ zs.length = i⟩
theorem turn_zip3 {P : Program} {w : World} {K : PySem.W.Frag} {elts : List Expr} {kk : Nat} {tpos : Pos} {a b c z TI TO i1 i2 i3 : Addr} (S : ZipSep3 z TI TO i1 i2 i3 [i1, a] [i2, b] [i3, c]) (na : a ≠ i1) (nb : b ≠ i2) (nc : c ≠ i3) :
    Turn P w K (.Tuple elts kk tpos) (ItZ3 K a b c) [z, TI, TO, i1, i2, i3] z (fun i h => IsZip h z TI TO .none ∧ IsTupOf3 h TI (.ref i1) (.ref i2) (.ref i3) ∧ (∃ a1 a2 a3, IsTupOf3 h TO a1 a2 a3) ∧ h.IsTupleIter i1 a i ∧ h.IsTupleIter i2 b i ∧ h.IsTupleIter i3 c i) where
  mem := by simp
  obj := fun i h st e he => by
    obtain ⟨hz, hTI, ⟨x, y, u, hTO⟩, ⟨o1, e1, _, d1⟩, ⟨o2, e2, _, d2⟩, ⟨o3, e3, _, d3⟩⟩ := st
    have e' : e = z ∨ e = TI ∨ e = TO ∨ e = i1 ∨ e = i2 ∨ e = i3 := by simpa using he
    rcases e' with q | q | q | q | q | q
    · rw [q]; exact ⟨_, hz, fun v q => nomatch q⟩
    · rw [q]; exact ⟨_, hTI, fun v q => nomatch q⟩
    · rw [q]; exact ⟨_, hTO, fun v q => nomatch q⟩
    · rw [q]; exact ⟨o1, e1, fun v q => by rw [d1] at q; cases q⟩
    · rw [q]; exact ⟨o2, e2, fun v q => by rw [d2] at q; cases q⟩
    · rw [q]; exact ⟨o3, e3, fun v q => by rw [d3] at q; cases q⟩
  keep := fun i h h' st k => by
    obtain ⟨hz, hTI, ⟨x, y, u, hTO⟩, h1, h2, h3⟩ := st
    exact ⟨k z (by simp) _ hz, k TI (by simp) _ hTI, ⟨x, y, u, k TO (by simp) _ hTO⟩, h1.at fun o q => k i1 (by simp) o q, h2.at fun o q => k i2 (by simp) o q, h3.at fun o q => k i3 (by simp) o q⟩
  item := by
    intro X hP hw hK hc i pins s σ H E I hf st hg
    subst hP hw hK
    obtain ⟨hz, hTI, hTO, h1, h2, h3⟩ := st
    obtain ⟨xs, ys, zs, x, y, u, hqx, hqy, hqz, hx, hy, hu⟩ := hg
    obtain ⟨its1, rv1, p1, _⟩ := I.tuple hqx
    obtain ⟨its2, rv2, p2, _⟩ := I.tuple hqy
    obtain ⟨its3, rv3, p3, _⟩ := I.tuple hqz
    obtain ⟨v1, g1, r1⟩ := rv1.get hx
    obtain ⟨v2, g2, r2⟩ := rv2.get hy
    obtain ⟨v3, g3, r3⟩ := rv3.get hu
    have hh : X.A.in1.handled = none := I.ok.hd hc
    have G := GoesN.zip3 (prog := X.prog) (w := X.w) (A := X.A) (elts := elts) (x1 := kk) (pos := tpos) S (Draws.tuple hh i1 a na its1.toArray) (Draws.tuple hh i2 b nb its2.toArray) (Draws.tuple hh i3 c nc its3.toArray)
    have l1 := ltL g1
    have l2 := ltL g2
    have l3 := ltL g3
    refine G.goes i s (fun u s2 => ∃ x H', Inv X pins σ H' s2 ∧ RelV x u ∧ (ItZ3 X.K a b c).yld i H x H' ∧ _ ∧ ∀ b ∈ [z, TI, TO, i1, i2, i3], H' b = none) E (by simp; omega) ⟨hz, hTI, hTO, ⟨h1, p1⟩, ⟨h2, p2⟩, ⟨h3, p3⟩⟩ fun v h' tk hY st2 hk htk => ?_
    obtain ⟨T, w1, w2, w3, rfl, hT, q1, q2, q3, hI⟩ := hY
    obtain ⟨z', TI', TO', ⟨k1, _⟩, ⟨k2, _⟩, ⟨k3, _⟩⟩ := st2
    have e1 : w1 = v1 := by simpa [g1] using q1.symm
    have e2 : w2 = v2 := by simpa [g2] using q2.symm
    have e3 : w3 = v3 := by simpa [g3] using q3.symm
    subst e1 e2 e3
    have new : ObjOk X.prog X.w (upd H T (.tup [x, y, u])) h' T (.tup [x, y, u]) := ⟨by show 3 ≤ sizeLine; decide, [w1, w2, w3], .cons r1 (.cons r2 (.cons r3 .nil)), hI⟩
    have I1 := I.turnedNew (t' := tk) (ch := [z, TO, i1, i2, i3]) hk (fun b hb => hf b (by simp at hb ⊢; rcases hb with q | q | q | q | q <;> simp [q])) hT new
    refine ⟨.ref T, _, I1, rfl, ⟨T, x, y, u, rfl, I.hok.fresh hT, rfl, fun l hl => by rw [I.tuple_inj hl hqx]; exact hx, fun l hl => by rw [I.tuple_inj hl hqy]; exact hy, fun l hl => by rw [I.tuple_inj hl hqz]; exact hu⟩, ⟨z', TI', TO', k1, k2, k3⟩, fun e he => ?_⟩
    have hlt : e < s.heap.objs.size := by
      have e' : e = z ∨ e = TI ∨ e = TO ∨ e = i1 ∨ e = i2 ∨ e = i3 := by simpa using he
      obtain ⟨_, _, _, hTO'⟩ := hTO
      obtain ⟨_, f1, _⟩ := h1
      obtain ⟨_, f2, _⟩ := h2
      obtain ⟨_, f3, _⟩ := h3
      rcases e' with q | q | q | q | q | q
      · rw [q]; exact Heap.lt_size hz
      · rw [q]; exact Heap.lt_size hTI
      · rw [q]; exact Heap.lt_size hTO'
      · rw [q]; exact Heap.lt_size f1
      · rw [q]; exact Heap.lt_size f2
      · rw [q]; exact Heap.lt_size f3
    rw [upd_ne (Nat.ne_of_lt (Nat.lt_of_lt_of_le hlt hT))]
    exact (hf e he).1
  done := by
    intro X hP hw hK hc i pins s σ H E I hf st hg
    subst hP hw hK
    obtain ⟨hz, hTI, hTO, h1, h2, h3⟩ := st
    obtain ⟨xs, ys, zs, hqx, hqy, hqz, n1, n2, n3⟩ := hg
    obtain ⟨its1, rv1, p1, _⟩ := I.tuple hqx
    obtain ⟨its2, rv2, p2, _⟩ := I.tuple hqy
    obtain ⟨its3, rv3, p3, _⟩ := I.tuple hqz
    have l1 := rv1.length
    have l2 := rv2.length
    have l3 := rv3.length
    have hh : X.A.in1.handled = none := I.ok.hd hc
    have G := GoesN.zip3 (prog := X.prog) (w := X.w) (A := X.A) (elts := elts) (x1 := kk) (pos := tpos) S (Draws.tuple hh i1 a na its1.toArray) (Draws.tuple hh i2 b nb its2.toArray) (Draws.tuple hh i3 c nc its3.toArray)
    have en : min (min its1.toArray.size its2.toArray.size) its3.toArray.size = i := by simp; omega
    rw [en] at G
    exact G.stops s _ E ⟨hz, hTI, hTO, ⟨h1, p1⟩, ⟨h2, p2⟩, ⟨h3, p3⟩⟩ fun h' tk hk htk => I.turnedL (t' := tk) (ch := [z, TO, i1, i2, i3]) hk (fun b hb => hf b (by simp at hb ⊢; rcases hb with q | q | q | q | q <;> simp [q]))
  self := fun A i s Q E st h => wpAny_pyIter_zip st.1 h
def iZip3 (K : PySem.W.Frag) (ta : TA) : TI := fun σ H R => ta σ H fun vs H1 => ∃ a b c xs ys zs, vs = [.ref a, .ref b, .ref c] ∧ SqT K H1 a xs ∧ SqT K H1 b ys ∧ SqT K H1 c zs ∧ R (ItZ3 K a b c) H1
theorem pi_zip3 {X : Cx} {e e2 e3 : Expr} {ta : TA} {p pos tpos : Pos} {elts : List Expr} {kk : Nat} (hg : Gl X "zip") (hm : X.mg "zip" = none) (ha : PA X [e, e2, e3] ta)
    (hs : starEach [e, e2, e3] X.env = (false, eval e X.env) :: starEach [e2, e3] X.env := by rfl) (hpl : (backTo pos (starEach [e2, e3] X.env)).any (·.1) = false := by rfl) : PI X (.Tuple elts kk tpos) (.Call (.Name "zip" p) [e, e2, e3] [] pos) (iZip3 X.K ta) := by
  refine ⟨fun pins s σ H R I h => ?_⟩
  refine Call_ (ld_blt I hg hm PyProof.Rows.boot_zip (PyProof.Rows.callWith_type1 (thn (ha.run pos pins s σ H _ I h) fun us s1 ⟨vs, H1, I1, r1, q1⟩ => ?_) hs hpl))
  obtain ⟨a, b, c, xs, ys, zs, rfl, hqx, hqy, hqz, q⟩ := q1
  cases r1 with
  | cons r rr =>
    cases rr with
    | cons r' rr =>
      cases rr with
      | cons r'' rr =>
        cases rr
        cases r
        cases r'
        cases r''
        obtain ⟨its1, rv1, p1, _⟩ := I1.tuple hqx
        obtain ⟨its2, rv2, p2, _⟩ := I1.tuple hqy
        obtain ⟨its3, rv3, p3, _⟩ := I1.tuple hqz
        obtain ⟨o1, ho1, _⟩ := id p1
        obtain ⟨o2, ho2, _⟩ := id p2
        obtain ⟨o3, ho3, _⟩ := id p3
        have la := Heap.lt_size ho1
        have lb := Heap.lt_size ho2
        have lc := Heap.lt_size ho3
        generalize hN : s1.heap.objs.size = N at la lb lc
        refine zip_begins3 (begins_tuple a its1.toArray) (begins_tuple b its2.toArray) (begins_tuple c its3.toArray) p1 p2 p3 fun h' hz hTI hTO g1 g2 g3 hsz hk => wpAny_pyIter_zip hz ?_
        rw [hN] at hz hTI hTO g1 g2 g3 ⊢
        have I2 : Inv X pins σ H1 { s1 with heap := h' } := I1.kept (t' := s1.toks) hk
        have S : ZipSep3 (N + 5) (N + 3) (N + 4) N (N + 1) (N + 2) [N, a] [N + 1, b] [N + 2, c] := zip_sep3 (fun d hd => by rw [List.mem_singleton.mp hd]; exact la) (fun d hd => by rw [List.mem_singleton.mp hd]; exact lb) (fun d hd => by rw [List.mem_singleton.mp hd]; exact lc)
        refine ⟨N + 5, [N + 5, N + 3, N + 4, N, N + 1, N + 2], _, _, H1, rfl, I2, turn_zip3 S (Nat.ne_of_lt la) (Nat.ne_of_lt (Nat.lt_succ_of_lt lb)) (Nat.ne_of_lt (Nat.lt_succ_of_lt (Nat.lt_succ_of_lt lc))), ⟨hz, hTI, ⟨_, _, _, hTO⟩, ⟨_, g1, rfl, rfl⟩, ⟨_, g2, rfl, rfl⟩, ⟨_, g3, rfl, rfl⟩⟩, fun d hd => ?_, q⟩
        have hle : s1.heap.objs.size ≤ d := by
          have e' : d = N + 5 ∨ d = N + 3 ∨ d = N + 4 ∨ d = N ∨ d = N + 1 ∨ d = N + 2 := by simpa using hd
          rw [hN]
          rcases e' with z | z | z | z | z | z
          · rw [z]; exact Nat.le_add_right _ _
          · rw [z]; exact Nat.le_add_right _ _
          · rw [z]; exact Nat.le_add_right _ _
          · rw [z]; exact Nat.le_refl _
          · rw [z]; exact Nat.le_add_right _ _
          · rw [z]; exact Nat.le_add_right _ _
        exact ⟨(I1.fpOk hle (I1.hok.fresh hle)).1, (I1.fpOk hle (I1.hok.fresh hle)).2⟩
/-- a new triple -/
def YTrip (xs ys zs : List V) : Nat → Hp → V → Hp → Prop := fun i H v H' => ∃ T x y z, v = .ref T ∧ H T = none ∧ H' = upd H T (.tup [x, y, z]) ∧ xs[i]? = some x ∧ ys[i]? = some y ∧ zs[i]? = some z
theorem walk_zip3 {K : PySem.W.Frag} {a b c : Addr} {xs ys zs : List V} (h1 : ys.length = xs.length) (h2 : zs.length = xs.length) : Walk (ItZ3 K a b c) xs.length (fun H => SqT K H a xs ∧ SqT K H b ys ∧ SqT K H c zs) (YTrip xs ys zs) := by
  refine ⟨fun i H hi q => ?_, fun H q => ⟨xs, ys, zs, q.1, q.2.1, q.2.2, rfl, h1, h2⟩, fun i H v H' _ q y => ?_⟩
  · exact ⟨xs, ys, zs, xs[i], ys[i]'(by omega), zs[i]'(by omega), q.1, q.2.1, q.2.2, List.getElem?_eq_getElem _, List.getElem?_eq_getElem _, List.getElem?_eq_getElem _⟩
  · obtain ⟨T, x, y, z, e1, e2, e3, e4, e5, e6⟩ := y
    exact ⟨T, x, y, z, e1, e2, e3, e4 _ q.1, e5 _ q.2.1, e6 _ q.2.2⟩
theorem walk_zipT {K : PySem.W.Frag} {a b : Addr} {xs ys : List V} (h1 : ys.length = xs.length) : Walk (RZ.ItzT K a b) xs.length (fun H => SqT K H a xs ∧ SqT K H b ys) (YPair (fun i => xs[i]?) (fun i => ys[i]?)) := by
  refine ⟨fun i H hi q => ?_, fun H q => ⟨xs, ys, q.1, q.2, .inl (Nat.le_refl _)⟩, fun i H v H' _ q y => ?_⟩
  · exact ⟨xs, ys, xs[i], ys[i]'(by omega), q.1, q.2, List.getElem?_eq_getElem _, List.getElem?_eq_getElem _⟩
  · obtain ⟨T, x, y, e1, e2, e3, e4, e5⟩ := y
    exact ⟨T, x, y, e1, e2, e3, e4 _ q.1, e5 _ q.2⟩
end K18

namespace K18
open PySem PySem.Spec PyProof.Rows L2
abbrev rInt1 : List V → Hp → VK → Prop := fun xs H Q => (∃ i, xs = [.int i] ∧ Q (.int i) H) ∨ ∃ k, xs = [.bl k] ∧ Q (.int (if k then 1 else 0)) H
theorem gcdI_zero {a : Int} (h : 0 ≤ a) : gcdI a 0 = a := by
  unfold gcdI
  simp
  omega
theorem gcdI_step {a b : Int} (ha : 0 ≤ a) (hb : 0 < b) : gcdI b (a % b) = gcdI a b := by
  obtain ⟨m, rfl⟩ := Int.eq_ofNat_of_zero_le ha
  obtain ⟨n, rfl⟩ := Int.eq_ofNat_of_zero_le (show 0 ≤ b by omega)
  unfold gcdI
  have e : ((m : Int) % (n : Int)).natAbs = m % n := by
    rw [← Int.natCast_emod]
    rfl
  show ((Nat.gcd n ((m : Int) % (n : Int)).natAbs : Nat) : Int) = ((Nat.gcd m n : Nat) : Int)
  rw [e, Nat.gcd_comm n, ← Nat.gcd_rec, Nat.gcd_comm]
theorem gcdI_abs (a b : Int) : gcdI (if a < 0 then -a else a) (if b < 0 then -b else b) = gcdI a b := by
  unfold gcdI
  congr 2
  · split <;> omega
  · split <;> omega
section
variable {P : Program} {w : World} {K : PySem.W.Frag} {mg : Str → Option Value} {base : Heap} {f f1 f2 f3 f4 f5 : Addr} {fd fd1 fd2 fd3 fd4 fd5 : FuncData}
/-! ### _law_common -/
def spCommon : Sp := fun vs H Q _ => ∃ a b : Int, vs = [.int a, .int b] ∧ Q (.int (gcdI a b)) H
theorem scCommon : FnScope ["one", "other"] ["one", "other"] (defScope sCommon) := ⟨rfl, rfl, rfl, by decide +kernel, rfl, by decide +kernel, by decide +kernel⟩
theorem ok_common (F : FnP K "_law_common" sCommon f fd) (B : Bl mg) : FnOk P w K mg base CX0 1 f fd ["one", "other"] spCommon := by
  refine F.ok scCommon (fun vs H Q E h => ?_) (fun cdv A outer s H vs Q E hr h => ?_)
  · obtain ⟨a, b, rfl, _⟩ := h
    rfl
  · obtain ⟨a, b, rfl, k⟩ := h
    refine ⟨_, PSs.nox (pss_cons (ps_par (i := 0) (j := 1) rfl scCommon.nd rfl rfl (by decide) rfl rfl (pa_cons (pe_callB call_abs (by rfl) (B "abs" (by decide +kernel)) (by decide +kernel) (pa_cons (pv 0) pa_nil)) (pa_cons (pe_callB call_abs (by rfl) (B "abs" (by decide +kernel)) (by decide +kernel) (pa_cons (pv 1) pa_nil)) pa_nil)) rfl)
      (pss_cons (ps_while PassesOwn.never (pt_cmpR op_ne (pv 1) pe_int (nomark _))
        (pss_one (ps_par (i := 0) (j := 1) rfl scCommon.nd rfl rfl (by decide) rfl rfl (pa_cons (pv 1) (pa_cons (pe_op op_mod (pe_callTy call_int1 (by rfl) (B "int" (by decide +kernel)) (by decide +kernel) (pa_cons (pv 0) pa_nil)) (pv 1)) pa_nil)) rfl)))
      (pss_one (ps_ret (pv 0))))), ?_⟩
    refine ⟨_, rfl, a, rfl, _, rfl, b, rfl, _, _, rfl, ?_⟩
    refine while_by (fun σ H2 => ∃ x y : Int, σ = [some (.int x), some (.int y)] ∧ H2 = H ∧ 0 ≤ x ∧ 0 ≤ y ∧ gcdI x y = gcdI a b) (fun σ _ => match σ with | [_, some (.int y)] => y.toNat | _ => 0) ⟨_, _, rfl, rfl, by split <;> omega, by split <;> omega, gcdI_abs a b⟩ ?_ ?_
    · rintro σ H2 ⟨x, y, rfl, rfl, hx, hy, hg⟩
      refine ⟨_, rfl, rfl, _, rfl, ?_⟩
      refine ite2 (fun c => ?_) (fun c => ?_)
      · have c1 : y ≠ 0 := fun z => by
          rw [z] at c
          simp at c
        have hy2 : 0 < y := by omega
        have m0 := Int.emod_nonneg x c1
        have m1 := Int.emod_lt_of_pos x hy2
        refine ⟨_, rfl, _, rfl, Or.inl ⟨_, rfl, _, rfl, _, _, rfl, rfl, hy2, _, _, rfl, ?_⟩⟩
        refine ⟨⟨y, x % y, rfl, rfl, hy, m0, by rw [gcdI_step hx hy2]; exact hg⟩, ?_⟩
        show (x % y).toNat < y.toNat
        omega
      · have c1 : y = 0 := by
          by_cases z : y = 0
          · exact z
          · exact absurd (by simp [z]) c
        subst c1
        refine ⟨_, rfl, ?_⟩
        have e : x = gcdI a b := by rw [← hg, gcdI_zero hx]
        rw [e]
        exact k
    · intro σ H2 Q1 Q2 hq hc
      obtain ⟨v, e1, e2, kk, e3, e4⟩ := hc
      exact ⟨v, e1, e2, kk, e3, hq _ _ e4⟩
/-! ### _law_sign -/
def pr17 : List Int := [2, 3, 5, 7, 11, 13, 17, 19, 23, 29, 31, 37, 41, 43, 47, 53, 59]
theorem pr17_pos : ∀ p ∈ pr17, 2 ≤ p ∧ p ≤ 59 := by decide
def spSign : Sp := fun vs H Q _ => ∃ m : Int, vs = [.int m] ∧ ∀ H', Same H H' → Q (.int (signL m)) H'
theorem scSign : FnScope ["m", "found", "left", "p"] ["m"] (defScope sSign) := ⟨rfl, rfl, rfl, by decide +kernel, rfl, by decide +kernel, by decide +kernel⟩
theorem ok_sign (F : FnP K "_law_sign" sSign f fd) (B : Bl mg) : FnOk P w K mg base CX0 1 f fd ["m"] spSign := by
  refine F.ok scSign (fun vs H Q E h => ?_) (fun cdv A outer s H vs Q E hr h => ?_)
  · obtain ⟨m, rfl, _⟩ := h
    rfl
  · obtain ⟨m, rfl, k⟩ := h
    refine ⟨_, PSs.nox (pss_cons (ps_par (i := 1) (j := 2) rfl scSign.nd rfl rfl (by decide) rfl rfl (pa_cons pe_int (pa_cons (pv 0) pa_nil)) rfl)
      (pss_cons (ps_for PassesOwn.never rfl (pi_tup (pe_tup (pa_cons pe_int (pa_cons pe_int (pa_cons pe_int (pa_cons pe_int (pa_cons pe_int (pa_cons pe_int (pa_cons pe_int (pa_cons pe_int (pa_cons pe_int (pa_cons pe_int (pa_cons pe_int (pa_cons pe_int (pa_cons pe_int (pa_cons pe_int (pa_cons pe_int (pa_cons pe_int (pa_cons pe_int pa_nil)))))))))))))))))))
          (pg_name (i := 3) scSign.nd rfl (Or.inl rfl))
        (pss_one (ps_if (pt_cmpR op_eq (pe_op op_mod (pe_callTy call_int1 (by rfl) (B "int" (by decide +kernel)) (by decide +kernel) (pa_cons (pv 2) pa_nil)) (pv 3)) pe_int (nomark _))
          (pss_cons (ps_par (i := 2) (j := 1) rfl scSign.nd rfl rfl (by decide) rfl rfl (pa_cons (pe_op op_fdiv (pv 2) (pv 3)) (pa_cons (pe_un un_neg (pv 1)) pa_nil)) rfl)
          (pss_one (ps_if (pt_cmpR op_eq (pe_op op_mod (pe_callTy call_int1 (by rfl) (B "int" (by decide +kernel)) (by decide +kernel) (pa_cons (pv 2) pa_nil)) (pv 3)) pe_int (nomark _)) (pss_one (ps_ret pe_int)) pss_nil)))
          pss_nil)))
      (pss_one (ps_ret (pv 1))))), ?_⟩
    refine ⟨_, rfl, _, _, rfl, ?_⟩
    refine ⟨by show 17 ≤ sizeLine; decide, fun t ht => ?_⟩
    have s1 : Same H (upd H t (.tup (pr17.map V.int))) := same_upd ht
    refine ⟨t, rfl, ⟨_, SqT.of upd_same⟩, for_tup (K := K) (a := t) (xs := pr17.map V.int) (fun i σ H2 => ∃ (g l : Int) (u : Option V), σ = [some (.int m), some (.int g), some (.int l), u] ∧ H2 = upd H t (.tup (pr17.map V.int)) ∧ signGo (pr17.drop i) g l = signL m) ⟨1, m, none, rfl, rfl, rfl⟩ (fun i σ H2 _ ⟨_, _, _, _, e, _⟩ => by rw [e]; exact SqT.of upd_same) ?_ ?_⟩
    · rintro i y σ H2 hi ⟨g, l, u, rfl, rfl, hg⟩
      obtain ⟨p, rfl, hp⟩ := getI hi
      have pb := pr17_pos p (List.mem_of_getElem? hp)
      have ed : pr17.drop i = p :: pr17.drop (i + 1) := by
        rw [List.drop_eq_getElem_cons (ltL hp)]
        congr 1
        exact (List.getElem?_eq_some_iff.mp hp).2
      rw [ed] at hg
      have hg' : (if l % p = 0 then (if (l / p) % p = 0 then 0 else signGo (pr17.drop (i + 1)) (-g) (l / p)) else signGo (pr17.drop (i + 1)) g l) = signL m := hg
      refine ⟨_, rfl, Or.inl ⟨_, rfl, _, rfl, _, _, rfl, rfl, by omega, rfl, _, rfl, ?_⟩⟩
      refine ite2 (fun c => ?_) (fun c => ?_)
      · rw [if_pos (eqI c)] at hg'
        refine ⟨_, rfl, _, rfl, _, _, rfl, rfl, ⟨by omega, by omega⟩, _, rfl, _, rfl, _, _, rfl, ?_⟩
        refine ⟨_, rfl, Or.inl ⟨_, rfl, _, rfl, _, _, rfl, rfl, by omega, rfl, _, rfl, ?_⟩⟩
        refine ite2 (fun c2 => ?_) (fun c2 => ?_)
        · rw [if_pos (eqI c2)] at hg'
          have z := k _ s1
          rw [← hg'] at z
          exact z
        · rw [if_neg (neI c2)] at hg'
          exact ⟨-g, l / p, _, rfl, rfl, hg'⟩
      · rw [if_neg (neI c)] at hg'
        exact ⟨g, l, _, rfl, rfl, hg'⟩
    · rintro σ H2 ⟨g, l, u, rfl, rfl, hg⟩
      have hg' : g = signL m := hg
      refine ⟨_, rfl, ?_⟩
      rw [hg']
      exact k _ s1
end
end K18

namespace K18
open PySem PySem.Spec PyProof.Rows L2
/-- the law's own floor -/
abbrev flKV (a : Addr) (n e : Int) (pl : Addr) : List (Key × V) := [((.inr "rings" : Key), V.ref a), (.inr "n", .int n), (.inr "e", .int e), (.inr "places", .ref pl)]
theorem m1 : ¬ (Sum.inr "rings" : Key) = .inr "n" := fun z => absurd (Sum.inr.inj z) (by decide +kernel)
theorem m2 : ¬ (Sum.inr "rings" : Key) = .inr "e" := fun z => absurd (Sum.inr.inj z) (by decide +kernel)
theorem m3 : ¬ (Sum.inr "rings" : Key) = .inr "places" := fun z => absurd (Sum.inr.inj z) (by decide +kernel)
theorem m4 : ¬ (Sum.inr "n" : Key) = .inr "e" := fun z => absurd (Sum.inr.inj z) (by decide +kernel)
theorem m5 : ¬ (Sum.inr "n" : Key) = .inr "places" := fun z => absurd (Sum.inr.inj z) (by decide +kernel)
theorem m6 : ¬ (Sum.inr "e" : Key) = .inr "places" := fun z => absurd (Sum.inr.inj z) (by decide +kernel)
section
variable {H : Hp} {d a pl : Addr} {n e : Int}
theorem fl_rings (h : H d = some (.dK (flKV a n e pl))) : DGet H d (.str "rings") (some (.ref a)) := by
  have z : valV (flKV a n e pl) (.inr "rings") = some (.ref a) := by rw [L2.valV_pos rfl]
  rw [← z]
  exact DGet.k (k := Sum.inr "rings") h
theorem fl_n (h : H d = some (.dK (flKV a n e pl))) : DGet H d (.str "n") (some (.int n)) := by
  have z : valV (flKV a n e pl) (.inr "n") = some (.int n) := by rw [L2.valV_neg m1, L2.valV_pos rfl]
  rw [← z]
  exact DGet.k (k := Sum.inr "n") h
theorem fl_e (h : H d = some (.dK (flKV a n e pl))) : DGet H d (.str "e") (some (.int e)) := by
  have z : valV (flKV a n e pl) (.inr "e") = some (.int e) := by rw [L2.valV_neg m2, L2.valV_neg m4, L2.valV_pos rfl]
  rw [← z]
  exact DGet.k (k := Sum.inr "e") h
theorem fl_places (h : H d = some (.dK (flKV a n e pl))) : DGet H d (.str "places") (some (.ref pl)) := by
  have z : valV (flKV a n e pl) (.inr "places") = some (.ref pl) := by rw [L2.valV_neg m3, L2.valV_neg m5, L2.valV_neg m6, L2.valV_pos rfl]
  rw [← z]
  exact DGet.k (k := Sum.inr "places") h
end
def FlD (K : PySem.W.Frag) (H : Hp) (d : Addr) (r : List Int) : Prop := ∃ a pl, H d = some (.dK (flKV a (sizeL r) (ordL r) pl)) ∧ SqT K H a (r.map V.int) ∧ PlL K H pl (placesL r)
theorem _root_.L2.Same.fld {K : PySem.W.Frag} {H H' : Hp} {d : Addr} {r : List Int} (e : Same H H') (h : FlD K H d r) : FlD K H' d r := by
  obtain ⟨a, pl, h1, h2, h3⟩ := h
  exact ⟨a, pl, e _ _ h1, e.tup h2, e.pll h3⟩
section
variable {P : Program} {w : World} {K : PySem.W.Frag} {mg : Str → Option Value} {base : Heap} {f f1 f2 f3 f4 f5 : Addr} {fd fd1 fd2 fd3 fd4 fd5 : FuncData}
/-! ### _law_times -/
def spTimes (K : PySem.W.Frag) : Sp := fun vs H Q _ => ∃ (d : Addr) (u : V) (r p : List Int) (j : Int), vs = [.ref d, u, .int j] ∧ FlD K H d r ∧ TupI K H u p ∧ r ∈ R14 ∧ p.length = r.length ∧ -1000 ≤ j ∧ j ≤ 1000 ∧ ∀ t H', Same H H' → H t = none → H' t = some (.tup ((repL r p j).map V.int)) → Q (.ref t) H'
theorem scTimes : FnScope ["floor", "place", "j", "x", "length"] ["floor", "place", "j"] (defScope sTimes) := ⟨rfl, rfl, rfl, by decide +kernel, rfl, by decide +kernel, by decide +kernel⟩
theorem repL_take (r p : List Int) (j : Int) (i : Nat) : (repL r p j).take i = (List.range (min i r.length)).map fun k => p.getD k 0 * j % r.getD k 0 := by
  unfold repL
  rw [← List.map_take, List.take_range]
theorem repL_get {r p : List Int} {j x n : Int} {i : Nat} (hp : p[i]? = some x) (hr : r[i]? = some n) : (repL r p j)[i]? = some (x * j % n) := by
  unfold repL
  rw [List.getElem?_map, List.getElem?_range (ltL hr)]
  have e1 : p.getD i 0 = x := by rw [List.getD_eq_getElem?_getD, hp]; rfl
  have e2 : r.getD i 0 = n := by rw [List.getD_eq_getElem?_getD, hr]; rfl
  show some (p.getD i 0 * j % r.getD i 0) = _
  rw [e1, e2]
theorem ok_times (F : FnP K "_law_times" sTimes f fd) (B : Bl mg) : FnOk P w K mg base CX0 1 f fd ["floor", "place", "j"] (spTimes K) := by
  refine F.ok scTimes (fun vs H Q E h => ?_) (fun cdv A outer s H vs Q E hr h => ?_)
  · obtain ⟨d, u, r, p, j, rfl, _⟩ := h
    rfl
  · obtain ⟨d, u, r, p, j, rfl, ⟨a, pl, hd, ha, hpl⟩, ⟨b, rfl, hb⟩, h14, hl, j1, j2, k⟩ := h
    have hu := hu_of hr
    refine ⟨_, PSs.nox (pss_one (ps_ret (pe_callTy call_tuple_of (by rfl) (B "tuple" (by decide +kernel)) (by decide +kernel) (pa_cons
      (pe_lc (own := [("x", 3), ("length", 4)]) (g := gTup K 2 (gCons (gName 3) (gCons (gName 4) gNil))) (tt := tYes) (te := tOp rMod (tCB rInt1 (tCons (tOp rMul (tVar 3) (tVar 2)) tNil)) (tVar 4)) rfl scTimes.nd
        (RZ.pi_zipA rfl (B "zip" (by decide +kernel)) (pa_cons (pv 1) (pa_cons (pe_dget hu (pv 0) pe_str (fun _ _ => rfl)) pa_nil)))
        (blkOk_by (own := [("x", 3), ("length", 4)]) (N := ["floor", "place", "j", "x", "length"]) (sc := defScope sTimes) (by decide +kernel))
        (fun _ _ _ _ _ => pg_tup rfl (pgs_cons (pg_name (i := 3) scTimes.nd rfl (Or.inl rfl)) (pgs_cons (pg_name (i := 4) scTimes.nd rfl (Or.inl rfl)) pgs_nil))) (fun _ _ _ _ _ => pts_nil)
        (fun _ _ _ _ _ => pe_op op_mod (pe_callTy call_int1 (by rfl) (B "int" (by decide +kernel)) (by decide +kernel) (pa_cons (pe_op op_mul (pv 3) (pv 2)) pa_nil)) (pv 4))) pa_nil)))), ?_⟩
    have hn := r14_len r h14
    refine ⟨_, rfl, _, rfl, d, _, rfl, fl_rings hd, b, a, _, _, rfl, .inr ⟨hb, ha, fun D hD => ?_⟩⟩
    have rl := repL_len r p j
    refine lc_it (walk_zipT (K := K) (a := b) (b := a) (xs := p.map V.int) (ys := r.map V.int) (by rw [List.length_map, List.length_map, hl])) (fun i H2 => Same H H2 ∧ H2 D = some (.lst (((repL r p j).take i).map V.int))) ⟨same_upd hD, by rw [upd_same]; simp⟩ (fun i H2 _ ⟨s2, _⟩ => ⟨s2.tup hb, s2.tup ha⟩) ?_ ?_
    · rintro i x H2 H3 hi ⟨s2, h2⟩ ⟨T, c, y, rfl, hT, rfl, ec, ey⟩
      obtain ⟨x, rfl, hx⟩ := getI ec
      obtain ⟨n, rfl, hn'⟩ := getI ey
      have nb := r14_pos r h14 n (List.mem_of_getElem? hn')
      have s3 : Same H (upd H2 T (.tup [.int x, .int n])) := same_new s2 hT
      have h3 : upd H2 T (.tup [.int x, .int n]) D = some (.lst (((repL r p j).take i).map V.int)) := by rw [upd_ne (ne_of_none h2 hT)]; exact h2
      refine ⟨T, _, rfl, SqT.of upd_same, rfl, _, _, rfl, _, _, rfl, rfl, rfl, _, rfl, _, rfl, _, _, rfl, rfl, Or.inr ⟨by omega, by omega⟩, Or.inl ⟨_, rfl, _, rfl, _, _, rfl, rfl, by omega, ?_⟩⟩
      refine ⟨_, h3, sl_lt ?_, same_at s3 hD, ?_⟩
      · rw [List.length_map]
        exact Nat.le_trans (List.length_take_le' _ _) (by omega)
      · rw [upd_same, takeS (repL_get hx hn'), List.map_append]
        rfl
    · rintro H2 ⟨s2, h2⟩
      rw [List.length_map, hl, ← rl, List.take_length] at h2
      refine ⟨D, _, rfl, .inl ⟨SqL.of h2, fun t ht => ?_⟩⟩
      exact k t _ (same_new s2 ht) (s2.free ht) upd_same
/-! ### _law_pairing -/
def spLPair (K : PySem.W.Frag) : Sp := fun vs H Q _ => ∃ (d : Addr) (u z : V) (r p l : List Int), vs = [.ref d, u, z] ∧ FlD K H d r ∧ TupI K H u p ∧ TupI K H z l ∧ r ∈ R14 ∧ p ∈ placesL r ∧ l ∈ placesL r ∧ ∀ H', Same H H' → Q (.int (pairL r (ordL r) p l)) H'
theorem scLPair : FnScope ["floor", "place", "label", "e", "x", "k", "length"] ["floor", "place", "label"] (defScope sLPair) := ⟨rfl, rfl, rfl, by decide +kernel, rfl, by decide +kernel, by decide +kernel⟩
def termL (r : List Int) (e : Int) (p l : List Int) (i : Nat) : List Int := (List.range i).map fun k => p.getD k 0 * l.getD k 0 * (e / r.getD k 0)
theorem term_sum (r : List Int) (e : Int) (p l : List Int) : ∀ i, (termL r e p l i).sum = pairGo r e p l i
  | 0 => rfl
  | i + 1 => by
    unfold termL
    rw [List.range_succ, List.map_append, List.sum_append]
    show (termL r e p l i).sum + _ = _
    rw [term_sum r e p l i]
    simp [pairGo]
theorem ok_lPair (F : FnP K "_law_pairing" sLPair f fd) (B : Bl mg) : FnOk P w K mg base CX0 1 f fd ["floor", "place", "label"] (spLPair K) := by
  refine F.ok scLPair (fun vs H Q E h => ?_) (fun cdv A outer s H vs Q E hr h => ?_)
  · obtain ⟨d, u, z, r, p, l, rfl, _⟩ := h
    rfl
  · obtain ⟨d, u, z, r, p, l, rfl, ⟨a, pl, hd, ha, hpl⟩, ⟨b, rfl, hb⟩, ⟨c, rfl, hc⟩, h14, hp, hl, k⟩ := h
    have hu := hu_of hr
    refine ⟨_, PSs.nox (pss_cons (ps_set (i := 3) scLPair.nd rfl (Or.inr rfl) (pe_dget hu (pv 0) pe_str (fun _ _ => rfl)))
      (pss_one (ps_ret (pe_op op_mod (pe_callTy call_int1 (by rfl) (B "int" (by decide +kernel)) (by decide +kernel) (pa_cons (pe_callB (cr_sum rfl) (by rfl) (B "sum" (by decide +kernel)) (by decide +kernel) (pa_cons
      (pe_lc (own := [("x", 4), ("k", 5), ("length", 6)]) (g := gTup K 3 (gCons (gName 4) (gCons (gName 5) (gCons (gName 6) gNil)))) (tt := tYes) (te := tOp rMul (tOp rMul (tVar 4) (tVar 5)) (tOp rFdv (tVar 3) (tVar 6))) rfl scLPair.nd
        (pi_zip3 rfl (B "zip" (by decide +kernel)) (pa_cons (pv 1) (pa_cons (pv 2) (pa_cons (pe_dget hu (pv 0) pe_str (fun _ _ => rfl)) pa_nil))))
        (blkOk_by (own := [("x", 4), ("k", 5), ("length", 6)]) (N := ["floor", "place", "label", "e", "x", "k", "length"]) (sc := defScope sLPair) (by decide +kernel))
        (fun _ _ _ _ _ => pg_tup rfl (pgs_cons (pg_name (i := 4) scLPair.nd rfl (Or.inl rfl)) (pgs_cons (pg_name (i := 5) scLPair.nd rfl (Or.inl rfl)) (pgs_cons (pg_name (i := 6) scLPair.nd rfl (Or.inl rfl)) pgs_nil)))) (fun _ _ _ _ _ => pts_nil)
        (fun _ _ _ _ _ => pe_op op_mul (pe_op op_mul (pv 4) (pv 5)) (pe_op op_fdiv (pv 3) (pv 6)))) pa_nil)) pa_nil)) (pv 3))))), ?_⟩
    have hn := r14_len r h14
    have lp := r14_whole h14 hp
    have ll := r14_whole h14 hl
    have eb := e12_bd _ (e12_in r h14)
    refine ⟨_, rfl, d, _, rfl, fl_e hd, ?_⟩
    refine ⟨_, rfl, _, rfl, _, rfl, d, _, rfl, fl_rings hd, b, c, a, _, _, _, rfl, hb, hc, ha, fun D hD => ?_⟩
    refine lc_it (walk_zip3 (K := K) (a := b) (b := c) (c := a) (xs := p.map V.int) (ys := l.map V.int) (zs := r.map V.int) (by rw [List.length_map, List.length_map, lp, ll]) (by rw [List.length_map, List.length_map, lp])) (fun i H2 => Same H H2 ∧ H2 D = some (.lst ((termL r (ordL r) p l i).map V.int))) ⟨same_upd hD, by rw [upd_same]; rfl⟩ (fun i H2 _ ⟨s2, _⟩ => ⟨s2.tup hb, s2.tup hc, s2.tup ha⟩) ?_ ?_
    · rintro i x H2 H3 hi ⟨s2, h2⟩ ⟨T, x1, x2, x3, rfl, hT, rfl, e1, e2, e3⟩
      obtain ⟨x, rfl, hx⟩ := getI e1
      obtain ⟨y, rfl, hy⟩ := getI e2
      obtain ⟨n, rfl, hn'⟩ := getI e3
      rw [List.length_map] at hi
      have nb := r14_pos r h14 n (List.mem_of_getElem? hn')
      have bx := r14_it r h14 p hp x (List.mem_of_getElem? hx)
      have bly := r14_it r h14 l hl y (List.mem_of_getElem? hy)
      have g1 : 0 ≤ x * y := Int.mul_nonneg bx.1 bly.1
      have g2 : x * y ≤ 60 * 60 := Int.mul_le_mul (by omega) (by omega) (by omega) (by omega)
      have s3 : Same H (upd H2 T (.tup [.int x, .int y, .int n])) := same_new s2 hT
      have h3 : upd H2 T (.tup [.int x, .int y, .int n]) D = some (.lst ((termL r (ordL r) p l i).map V.int)) := by rw [upd_ne (ne_of_none h2 hT)]; exact h2
      refine ⟨T, _, rfl, SqT.of upd_same, rfl, _, _, rfl, _, _, rfl, _, _, rfl, rfl, rfl, _, rfl, _, rfl, _, _, rfl, rfl, Or.inl ⟨by omega, by omega⟩, _, rfl, _, rfl, _, _, rfl, rfl, ⟨by omega, by omega⟩, _, _, rfl, rfl, Or.inl ⟨by omega, by omega⟩, ?_⟩
      refine ⟨_, h3, sl_lt (by simp [termL]; omega), same_at s3 hD, ?_⟩
      have q1 : p.getD i 0 = x := by rw [List.getD_eq_getElem?_getD, hx]; rfl
      have q2 : l.getD i 0 = y := by rw [List.getD_eq_getElem?_getD, hy]; rfl
      have q3 : r.getD i 0 = n := by rw [List.getD_eq_getElem?_getD, hn']; rfl
      have et : termL r (ordL r) p l (i + 1) = termL r (ordL r) p l i ++ [x * y * (ordL r / n)] := by
        unfold termL
        rw [List.range_succ, List.map_append, ← q1, ← q2, ← q3]
        rfl
      rw [upd_same, et, List.map_append]
      rfl
    · rintro H2 ⟨s2, h2⟩
      rw [List.length_map, lp] at h2
      refine ⟨D, _, rfl, SqL.of h2, Or.inl ⟨_, rfl, _, rfl, _, _, rfl, rfl, by omega, ?_⟩⟩
      rw [term_sum]
      exact k H2 s2
end
end K18

namespace K18
open PySem PySem.Spec PyProof.Rows L2
theorem r14_e : ∀ r ∈ R14, ∀ i ∈ List.range r.length, 1 ≤ gcdI (ordL (r.take i)) (r.getD i 0) ∧ gcdI (ordL (r.take i)) (r.getD i 0) ≤ 60 ∧ 1 ≤ ordL (r.take i) ∧ ordL (r.take i) ≤ 60 ∧ ordL (r.take i) * r.getD i 0 / gcdI (ordL (r.take i)) (r.getD i 0) = ordL (r.take (i + 1)) := by decide +kernel
section
variable {P : Program} {w : World} {K : PySem.W.Frag} {mg : Str → Option Value} {base : Heap} {f f1 f2 f3 f4 f5 : Addr} {fd fd1 fd2 fd3 fd4 fd5 : FuncData}
/-! ### _law_floor -/
def spLFloor (K : PySem.W.Frag) : Sp := fun vs H Q _ => ∃ (v : V) (r : List Int), vs = [v] ∧ TupI K H v r ∧ r ∈ R14 ∧ ∀ d H', Same H H' → FlD K H' d r → H d = none → Q (.ref d) H'
theorem scLFloor : FnScope ["rings", "n", "e", "length", "places", "longer", "place", "x"] ["rings"] (defScope sLFloor) := ⟨rfl, rfl, rfl, by decide +kernel, rfl, by decide +kernel, by decide +kernel⟩
theorem merge_fl (a pl : Addr) (n e : Int) : mergeK [] (flKV a n e pl) = flKV a n e pl := rfl
theorem rf_append (k6 k5 : List (Addr × List Int)) : rf (k6 ++ k5) = rf k6 ++ rf k5 := by simp [rf]
theorem ok_lFloor (F : FnP K "_law_floor" sLFloor f fd) (B : Bl mg) (F1 : FnP K "_law_common" sCommon f1 fd1) (g1 : mg "_law_common" = some (.ref f1)) : FnOk P w K mg base CX0 2 f fd ["rings"] (spLFloor K) := by
  have G1 : FnOk P w K mg base CX0 1 f1 fd1 ["one", "other"] spCommon := ok_common F1 B
  have b1 : Binds K fd1 ["one", "other"] [] := F1.bindsN fun _ _ _ _ _ _ us hl => match us, hl with | [_, _], _ => rfl
  refine F.ok scLFloor (fun vs H Q E h => ?_) (fun cdv A outer s H vs Q E hr h => ?_)
  · obtain ⟨v, r, rfl, _⟩ := h
    rfl
  · obtain ⟨v, r, rfl, ⟨a, rfl, ha⟩, h14, k⟩ := h
    have hu := hu_of hr
    refine ⟨_, PSs.nox (pss_cons (ps_asg (pe_tup (pa_cons pe_int (pa_cons pe_int pa_nil))) (pg_tup rfl (pgs_cons (pg_name (i := 1) scLFloor.nd rfl (Or.inl rfl)) (pgs_cons (pg_name (i := 2) scLFloor.nd rfl (Or.inl rfl)) pgs_nil))))
      (pss_cons (ps_for PassesOwn.never rfl (pi_tup (pv 0)) (pg_name (i := 3) scLFloor.nd rfl (Or.inl rfl))
        (pss_one (ps_par (i := 1) (j := 2) rfl scLFloor.nd rfl rfl (by decide) rfl rfl (pa_cons (pe_op op_mul (pv 1) (pv 3)) (pa_cons (pe_op op_fdiv (pe_op op_mul (pv 2) (pv 3)) (pe_call G1 hr rfl g1 F1.kp b1 .nil pass0 (pa_cons (pv 2) (pa_cons (pv 3) pa_nil)))) pa_nil)) rfl)))
      (pss_cons (ps_set (i := 4) scLFloor.nd rfl (Or.inl rfl) (pe_lst (pa_cons (pe_tup pa_nil) pa_nil)))
      (pss_cons (ps_for PassesOwn.never rfl (pi_tup (pv 0)) (pg_name (i := 3) scLFloor.nd rfl (Or.inl rfl))
        (pss_cons (ps_set (i := 5) scLFloor.nd rfl (Or.inl rfl) (pe_lst pa_nil))
        (pss_cons (ps_for PassesOwn.never rfl (pi_list (pv 4)) (pg_name (i := 6) scLFloor.nd rfl (Or.inr rfl))
          (pss_one (ps_expr (pe_bm PySem.F.plainAttrs_list PySem.F.slot_list_extend PySem.F.type_list_extend mt_extend (pv 5) (pa_cons
            (pe_lc (own := [("x", 7)]) (g := gName 7) (tt := tYes) (te := tOp (rCatA K) (tVar 6) (tTup (tCons (tVar 7) tNil))) rfl scLFloor.nd (pi_range1 rfl (B "range" (by decide +kernel)) (pa_cons (pv 3) pa_nil))
              (blkOk_by (own := [("x", 7)]) (N := ["rings", "n", "e", "length", "places", "longer", "place", "x"]) (sc := defScope sLFloor) (by decide +kernel)) (fun _ _ _ _ _ => pg_name (i := 7) scLFloor.nd rfl (Or.inl rfl)) (fun _ _ _ _ _ => pts_nil) (fun _ _ _ _ _ => pe_op op_catA (pv 6) (pe_tup (pa_cons (pv 7) pa_nil)))) pa_nil)))))
        (pss_one (ps_set (i := 4) scLFloor.nd rfl (Or.inl rfl) (pv 5))))))
      (pss_one (ps_ret (pe_disp (pps_cons pe_str (pv 0) (pps_cons pe_str (pv 1) (pps_cons pe_str (pv 2) (pps_cons pe_str (pv 4) pps_nil)))) (by rfl) (by rfl) (fun z => by cases z) (by decide)))))))), ?_⟩
    have hn := r14_len r h14
    refine ⟨by show 2 ≤ sizeLine; decide, fun t0 ht0 => ?_⟩
    have s0 : Same H (upd H t0 (.tup [.int 1, .int 1])) := same_upd ht0
    refine ⟨t0, _, rfl, SqT.of upd_same, rfl, _, _, rfl, _, _, rfl, rfl, ?_⟩
    refine ⟨_, rfl, a, rfl, ⟨_, s0.tup ha⟩, for_tup (K := K) (a := a) (xs := r.map V.int) (fun i σ H2 => ∃ u, σ = [some (.ref a), some (.int (sizeL (r.take i))), some (.int (ordL (r.take i))), u, none, none, none, none] ∧ Same H H2) ⟨none, rfl, s0⟩ (fun i σ H2 _ ⟨_, _, s2⟩ => s2.tup ha) ?_ ?_⟩
    · rintro i y σ H2 hi ⟨u, rfl, s2⟩
      obtain ⟨c, rfl, hc⟩ := getI hi
      have hil := ltL hc
      have cb := r14_pos r h14 c (List.mem_of_getElem? hc)
      have ec : r.getD i 0 = c := by rw [List.getD_eq_getElem?_getD, hc]; rfl
      have z := r14_e r h14 i (List.mem_range.mpr hil)
      rw [ec] at z
      have zs := r14_size r h14 i (List.mem_range.mpr (by omega))
      refine ⟨_, rfl, _, rfl, _, _, rfl, rfl, Or.inl ⟨by omega, by omega⟩, _, rfl, _, rfl, _, _, rfl, rfl, Or.inl ⟨by omega, by omega⟩, _, rfl, _, rfl, _, _, rfl, _, _, rfl, rfl, ⟨by omega, by omega⟩, _, _, rfl, ?_⟩
      refine ⟨some (.int c), ?_, s2⟩
      rw [size_take hc, ← z.2.2.2.2]
      rfl
    · rintro σ H2 ⟨u, rfl, s2⟩
      rw [List.length_map, List.take_length]
      refine ⟨by decide, fun t ht => ⟨by show 1 ≤ sizeLine; decide, fun L hL => ?_⟩⟩
      have s3 : Same H2 (upd (upd H2 t (.tup [])) L (.lst [.ref t])) := same_new (same_upd ht) hL
      refine ⟨_, rfl, a, rfl, ⟨_, (s2.trans s3).tup ha⟩, for_tup (K := K) (a := a) (xs := r.map V.int) (fun i σ H3 => ∃ (l : Addr) (u v z : Option V), σ = [some (.ref a), some (.int (sizeL r)), some (.int (ordL r)), u, some (.ref l), v, z, none] ∧ Same H H3 ∧ PlL K H3 l (placesL (r.take i)))
        ⟨L, u, none, none, rfl, s2.trans s3, [(t, [])], upd_same, rfl, fun p hp => by rw [List.mem_singleton.mp hp]; exact (same_upd hL).tup (SqT.of upd_same)⟩ (fun i σ H3 _ ⟨_, _, _, _, _, z, _⟩ => z.tup ha) ?_ ?_⟩
      · rintro i y σ H3 hi ⟨l, u1, v1, z1, rfl, s4, ks, hk, em, tk⟩
        obtain ⟨c, rfl, hc⟩ := getI hi
        have cb := r14_pos r h14 c (List.mem_of_getElem? hc)
        have hlt := ltL hc
        have l1 := r14_pl r h14 i (List.mem_range.mpr (by omega))
        refine ⟨by decide, fun G hG => ?_⟩
        have nG : H G = none := s4.free hG
        have s5 : Same H3 (upd H3 G (.lst [])) := same_upd hG
        refine ⟨_, rfl, l, rfl, ⟨_, SqL.of (s5 _ _ hk)⟩, for_list (K := K) (a := l) (xs := rf ks) (fun m σ H4 => ∃ z, σ = [some (.ref a), some (.int (sizeL r)), some (.int (ordL r)), some (.int c), some (.ref l), some (.ref G), z, none] ∧ Same H3 H4 ∧ PlL K H4 G (plStep ((placesL (r.take i)).take m) c)) ⟨z1, rfl, s5, [], upd_same, rfl, tl_nil⟩ (fun m σ H4 _ ⟨_, _, z, _⟩ => SqL.of (z _ _ hk)) ?_ ?_⟩
        · rintro m y σ H4 hm ⟨z, rfl, s6, k6, h6, e6, t6⟩
          obtain ⟨q, rfl, hq⟩ := getR hm
          have hq2 := map_get em hq
          have tq := tk q (List.mem_of_getElem? hq)
          have zl := r14_plen r h14 i (List.mem_range.mpr (by omega)) _ (List.mem_of_getElem? hq2)
          have ml : m < 60 := Nat.lt_of_lt_of_le (ltL hq2) l1
          refine ⟨_, rfl, Or.inl ⟨rfl, _, SqL.of h6⟩, ?_⟩
          refine ⟨_, rfl, c, rfl, by omega, by omega, fun D hD => ?_⟩
          refine lc_range (lo := 0) (n := c.toNat) (fun j H5 => Same H4 H5 ∧ ∃ k5, H5 D = some (.lst (rf k5)) ∧ k5.map (·.2) = (rgL 0 j).map (fun x => q.2 ++ [x]) ∧ TL K H5 k5) ⟨same_upd hD, [], upd_same, rfl, tl_nil⟩ ?_ ?_
          · rintro j H5 hj ⟨s7, k5, h5, e5, t5⟩
            have l5 : k5.length = j := by
              have z := congrArg List.length e5
              rw [List.length_map, List.length_map, rgL_len] at z
              exact z
            refine ⟨rfl, _, rfl, _, rfl, by show 1 ≤ sizeLine; decide, fun p hp => ?_⟩
            have s8 : Same H5 (upd H5 p (.tup [.int (0 + (j : Int))])) := same_upd hp
            have tq5 : SqT K (upd H5 p (.tup [.int (0 + (j : Int))])) q.1 (q.2.map V.int) := ((s6.trans s7).trans s8).tup tq
            have h5p : upd H5 p (.tup [.int (0 + (j : Int))]) D = some (.lst (rf k5)) := s8 _ _ h5
            refine ⟨q.1, p, _, _, rfl, rfl, tq5, SqT.of upd_same, sl_1000 (by simp; omega), fun en => ?_, fun _ e => absurd e (by simp), fun en _ p2 hp2 => ?_⟩
            · have e0 : q.2 = [] := by simpa using en
              refine ⟨_, h5p, sl_lt (by rw [List.length_map]; omega), same_at (s7.trans s8) hD, k5 ++ [(p, q.2 ++ [0 + (j : Int)])], ?_, ?_, tl_at (tl_snoc (s8.tl t5) (by rw [e0]; exact SqT.of upd_same)) h5p⟩
              · rw [upd_same, rf_snoc]
              · rw [List.map_append, e5, rgL_succ, List.map_append]
                rfl
            · have s9 : Same (upd H5 p (.tup [.int (0 + (j : Int))])) (upd (upd H5 p (.tup [.int (0 + (j : Int))])) p2 (.tup (q.2.map V.int ++ [.int (0 + (j : Int))]))) := same_upd hp2
              have h52 := s9 _ _ h5p
              refine ⟨_, h52, sl_lt (by rw [List.length_map]; omega), same_at ((s7.trans s8).trans s9) hD, k5 ++ [(p2, q.2 ++ [0 + (j : Int)])], ?_, ?_, tl_at (tl_snoc ((s8.trans s9).tl t5) (SqT.of (by rw [upd_same, List.map_append]; rfl))) h52⟩
              · rw [upd_same, rf_snoc]
              · rw [List.map_append, e5, rgL_succ, List.map_append]
                rfl
          · rintro H5 ⟨s7, k5, h5, e5, t5⟩
            have l5 : k5.length = c.toNat := by
              have z := congrArg List.length e5
              rw [List.length_map, List.length_map, rgL_len] at z
              exact z
            have l6 : k6.length ≤ 3600 := by
              have z := congrArg List.length e6
              rw [List.length_map, plStep_len] at z
              have z2 : ((placesL (r.take i)).take m).length ≤ 60 := Nat.le_trans (List.length_take_le' _ _) l1
              have z3 : ((placesL (r.take i)).take m).length * c.toNat ≤ 60 * 60 := Nat.mul_le_mul z2 (by omega)
              omega
            have hGne : H3 G = none := hG
            refine ⟨G, D, _, _, rfl, rfl, s7 _ _ h6, h5, sl_1000 (by rw [List.length_map, List.length_map]; omega), ?_⟩
            refine ⟨_, rfl, same_at (s6.trans s7) hG, k6 ++ k5, ?_, ?_, tl_at (fun p hp => ?_) (s7 _ _ h6)⟩
            · rw [upd_same, rf_append]
            · rw [List.map_append, e6, e5, plStep_take hq2]
            · rcases List.mem_append.mp hp with z | z
              · exact (s7.tl t6) p z
              · exact t5 p z
        · rintro σ H4 ⟨z, rfl, s6, P6⟩
          have e6 : (rf ks).length = (placesL (r.take i)).length := by rw [← em, List.length_map, List.length_map]
          rw [e6, List.take_length] at P6
          refine ⟨_, rfl, G, _, _, _, rfl, s4.trans s6, ?_⟩
          rw [pl_take hc]
          exact P6
      · rintro σ H3 ⟨l, u1, v1, z1, rfl, s4, P4⟩
        rw [List.length_map, List.take_length] at P4
        intro d nd
        have s5 : Same H3 (upd H3 d (.dK [])) := same_upd nd
        refine ⟨_, rfl, _, rfl, _, rfl, _, rfl, upd_same, flKV a (sizeL r) (ordL r) l, rfl, (by show 4 ≤ 15; decide), ?_⟩
        rw [merge_fl]
        have s6 : Same H3 (upd (upd H3 d (.dK [])) d (.dK (flKV a (sizeL r) (ordL r) l))) := same_at s5 nd
        exact k d _ (s4.trans s6) ⟨a, l, upd_same, (s4.trans s6).tup ha, s6.pll P4⟩ (s4.free nd)
end
end K18

namespace K18
open PySem PySem.Spec PyProof.Rows L2
def stepM (m : Int) (xl : Int × Int) : Int := let far := xl.2 / gcdI xl.2 xl.1; m * far / gcdI m far
def ordP (r l : List Int) (i : Nat) : Int := ((l.zip r).take i).foldl stepM 1
theorem ordP_all (r l : List Int) (h : l.length = r.length) : ordP r l r.length = ordGo r l := by
  unfold ordP
  rw [List.take_of_length_le (by simp; omega)]
  rfl
theorem ordP_succ {r l : List Int} {i : Nat} {x n : Int} (hx : l[i]? = some x) (hn : r[i]? = some n) : ordP r l (i + 1) = stepM (ordP r l i) (x, n) := by
  have e : (l.zip r)[i]? = some (x, n) := by
    rw [List.getElem?_zip_eq_some]
    exact ⟨hx, hn⟩
  unfold ordP
  rw [takeS e, List.foldl_append]
  rfl
def farOk (r l : List Int) (i : Nat) : Bool :=
  let n := r.getD i 0
  let g := gcdI n (l.getD i 0)
  let far := n / g
  let m := ordP r l i
  decide (1 ≤ g) && (decide (g ≤ 60) && (decide (1 ≤ far) && (decide (far ≤ 60) && (decide (1 ≤ m) && (decide (m ≤ 60) && (decide (1 ≤ gcdI m far) && decide (gcdI m far ≤ 60)))))))
theorem r14_far : ∀ r ∈ R14, ∀ l ∈ placesL r, ∀ i ∈ List.range r.length, farOk r l i = true := by decide +kernel
theorem r14_m : ∀ r ∈ R14, ∀ l ∈ placesL r, 1 ≤ ordGo r l ∧ ordGo r l ≤ 60 ∧ 1 ≤ ordL r / ordGo r l ∧ ordL r / ordGo r l ≤ 60 := by decide +kernel
theorem gcdI_bd {a b : Int} (h : 1 ≤ a) : 1 ≤ gcdI a b ∧ gcdI a b ≤ a := by
  unfold gcdI
  have h1 : 0 < a.natAbs := by omega
  have p := Nat.gcd_pos_of_pos_left b.natAbs h1
  have q := Nat.gcd_le_left b.natAbs h1
  omega
theorem keys_put {κ : Type} [DecidableEq κ] {kvs : List (κ × V)} {k : κ} {v : V} (h : k ∈ kvs.map (·.1)) : (putK kvs k v).map (·.1) = kvs.map (·.1) := by
  unfold putK
  have e : (kvs.any fun kv => decide (kv.1 = k)) = true := by
    obtain ⟨p, hp, rfl⟩ := List.mem_map.mp h
    exact List.any_eq_true.mpr ⟨p, hp, decide_eq_true rfl⟩
  rw [if_pos e, List.map_map]
  refine List.map_congr_left fun p _ => ?_
  show (if p.1 = k then (p.1, v) else p).1 = p.1
  split <;> rfl
abbrev kq (q : List Int) : List Key := q.map Sum.inl
theorem kq_inj {p q : List Int} (h : kq p = kq q) : p = q := by
  induction p generalizing q with
  | nil =>
    cases q with
    | nil => rfl
    | cons b q => simp [kq] at h
  | cons a p ih =>
    cases q with
    | nil => simp [kq] at h
    | cons b q =>
      simp only [kq, List.map_cons, List.cons.injEq, Sum.inl.injEq] at h
      rw [h.1, ih h.2]
theorem kq_v (q : List Int) : (kq q).map kV = q.map V.int := by
  rw [kq, List.map_map]
  rfl
section
variable {P : Program} {w : World} {K : PySem.W.Frag} {mg : Str → Option Value} {base : Heap} {f f1 f2 f3 f4 f5 : Addr} {fd fd1 fd2 fd3 fd4 fd5 : FuncData}
/-! ### _law_class -/
def spLClass (K : PySem.W.Frag) : Sp := fun vs H Q _ => ∃ (d : Addr) (u : V) (r l : List Int), vs = [.ref d, u] ∧ FlD K H d r ∧ TupI K H u l ∧ r ∈ R14 ∧ l ∈ placesL r ∧ ∀ t vs H', Same H H' → SqT K H' t vs → vs.length = (canL r l).length → Q (.ref t) H'
theorem scLClass : FnScope ["floor", "label", "e", "found", "j", "x", "length"] ["floor", "label"] (defScope sLClass) := ⟨rfl, rfl, rfl, by decide +kernel, rfl, by decide +kernel, by decide +kernel⟩
theorem keys_at {H : Hp} : ∀ {kvs : List (List Key × V)} {bs : List Addr} {qs : List (List Int)}, IsKeys H kvs bs → kvs.map (·.1) = qs.map kq → bs.length = qs.length ∧ ∀ x ∈ bs.map V.ref, ∃ q ∈ qs, ∃ t, x = V.ref t ∧ H t = some (.tup (q.map V.int))
  | [], _, [], .nil, _ => ⟨rfl, fun x hx => absurd hx (by simp)⟩
  | [], _, q :: qs, .nil, e => by simp at e
  | p :: kvs, b :: bs, [], .cons h t, e => by simp at e
  | p :: kvs, b :: bs, q :: qs, .cons h t, e => by
    simp only [List.map_cons, List.cons.injEq] at e
    obtain ⟨n1, n2⟩ := keys_at t e.2
    refine ⟨by simp [n1], fun x hx => ?_⟩
    rcases List.mem_cons.mp hx with z | z
    · refine ⟨q, List.mem_cons_self, b, z, ?_⟩
      rw [← kq_v, ← e.1]
      exact h
    · obtain ⟨q', m, t, e1, e2⟩ := n2 x z
      exact ⟨q', List.mem_cons_of_mem _ m, t, e1, e2⟩
theorem ok_lClass (F : FnP K "_law_class" sLClass f fd) (B : Bl mg) (F1 : FnP K "_law_common" sCommon f1 fd1) (g1 : mg "_law_common" = some (.ref f1)) : FnOk P w K mg base CX0 2 f fd ["floor", "label"] (spLClass K) := by
  have G1 : FnOk P w K mg base CX0 1 f1 fd1 ["one", "other"] spCommon := ok_common F1 B
  have b1 : Binds K fd1 ["one", "other"] [] := F1.bindsN fun _ _ _ _ _ _ us hl => match us, hl with | [_, _], _ => rfl
  refine F.ok scLClass (fun vs H Q E h => ?_) (fun cdv A outer s H vs Q E hr h => ?_)
  · obtain ⟨d, u, r, l, rfl, _⟩ := h
    rfl
  · obtain ⟨d, u, r, l, rfl, ⟨a, pl, hd, ha, hpl⟩, ⟨b, rfl, hb⟩, h14, hl, k⟩ := h
    have hu := hu_of hr
    have hn := r14_len r h14
    refine ⟨_, PSs.nox (pss_cons (ps_par (i := 2) (j := 3) rfl scLClass.nd rfl rfl (by decide) rfl rfl (pa_cons (pe_dget hu (pv 0) pe_str (fun _ _ => rfl)) (pa_cons pe_dnewT pa_nil)) rfl)
      (pss_cons (ps_for PassesOwn.never rfl (pi_range2 rfl (B "range" (by decide +kernel)) (pa_cons pe_int (pa_cons (pe_op op_add (pv 2) pe_int) pa_nil))) (pg_name (i := 4) scLClass.nd rfl (Or.inr rfl))
        (pss_one (ps_if (pt_cmpR op_eq (pe_call G1 hr rfl g1 F1.kp b1 .nil pass0 (pa_cons (pv 4) (pa_cons (pv 2) pa_nil))) pe_int (nomark _))
          (pss_one (ps_dput hu (pv 3) (pe_callTy call_tuple_of (by rfl) (B "tuple" (by decide +kernel)) (by decide +kernel) (pa_cons
            (pe_lc (own := [("x", 5), ("length", 6)]) (g := gTup K 2 (gCons (gName 5) (gCons (gName 6) gNil))) (tt := tYes) (te := tOp rMod (tCB rInt1 (tCons (tOp rMul (tVar 5) (tVar 4)) tNil)) (tVar 6)) rfl scLClass.nd
              (RZ.pi_zipA rfl (B "zip" (by decide +kernel)) (pa_cons (pv 1) (pa_cons (pe_dget hu (pv 0) pe_str (fun _ _ => rfl)) pa_nil)))
              (blkOk_by (own := [("x", 5), ("length", 6)]) (N := ["floor", "label", "e", "found", "j", "x", "length"]) (sc := defScope sLClass) (by decide +kernel))
              (fun _ _ _ _ _ => pg_tup rfl (pgs_cons (pg_name (i := 5) scLClass.nd rfl (Or.inl rfl)) (pgs_cons (pg_name (i := 6) scLClass.nd rfl (Or.inl rfl)) pgs_nil))) (fun _ _ _ _ _ => pts_nil)
              (fun _ _ _ _ _ => pe_op op_mod (pe_callTy call_int1 (by rfl) (B "int" (by decide +kernel)) (by decide +kernel) (pa_cons (pe_op op_mul (pv 5) (pv 4)) pa_nil)) (pv 6))) pa_nil)) pe_bl rfl))
          pss_nil)))
      (pss_one (ps_ret (pe_callTy call_tuple_of (by rfl) (B "tuple" (by decide +kernel)) (by decide +kernel) (pa_cons (pe_callB (cr_sortT (d := r.length) (B := 64) hn.1) (by rfl) (B "sorted" (by decide +kernel)) (by decide +kernel) (pa_cons (pe_callTy (call_list_dT rfl) (by rfl) (B "list" (by decide +kernel)) (by decide +kernel) (pa_cons (pv 3) pa_nil)) pa_nil)) pa_nil)))))), ?_⟩
    have eb := e12_bd _ (e12_in r h14)
    have lw := r14_whole h14 hl
    refine ⟨_, rfl, d, _, rfl, fl_e hd, fun D hD => ⟨_, _, rfl, ?_⟩⟩
    refine ⟨_, rfl, _, _, rfl, rfl, 1, ordL r + 1, rfl, ⟨by omega, by omega, by omega, by omega⟩, ?_⟩
    refine for_range (lo := 1) (n := (ordL r + 1 - 1).toNat) (fun i σ H2 => ∃ (z : Option V) (kvs : List (List Key × V)) (qs : List (List Int)), σ = [some (.ref d), some (.ref b), some (.int (ordL r)), some (.ref D), z, none, none] ∧ Same H H2 ∧ H2 D = some (.dT kvs) ∧ kvs.map (·.1) = qs.map kq ∧ qs.Nodup ∧ qs.length ≤ i ∧ ∀ q, q ∈ qs ↔ q ∈ ((rgL 1 i).filter fun j => decide (gcdI j (ordL r) = 1)).map fun j => repL r l j)
      ⟨none, [], [], rfl, same_upd hD, upd_same, rfl, List.nodup_nil, Nat.le_refl _, fun q => by simp [rgL]⟩ ?_ ?_
    · rintro i σ H2 hi ⟨z, kvs, qs, rfl, s2, h2, kk, nd, ql, mq⟩
      refine ⟨_, rfl, _, rfl, _, _, rfl, rfl, _, rfl, ?_⟩
      refine ite2 (fun c => ?_) (fun c => ?_)
      · have c1 := eqI c
        refine ⟨_, rfl, _, rfl, _, rfl, d, _, rfl, fl_rings (s2 _ _ hd), b, a, _, _, rfl, .inr ⟨s2.tup hb, s2.tup ha, fun G hG => ?_⟩⟩
        have nG : H G = none := s2.free hG
        refine lc_it (walk_zipT (K := K) (a := b) (b := a) (xs := l.map V.int) (ys := r.map V.int) (by rw [List.length_map, List.length_map, lw])) (fun m H3 => Same H2 H3 ∧ H3 G = some (.lst (((repL r l (1 + (i : Int))).take m).map V.int))) ⟨same_upd hG, by rw [upd_same]; simp⟩ (fun m H3 _ ⟨s3, _⟩ => ⟨(s2.trans s3).tup hb, (s2.trans s3).tup ha⟩) ?_ ?_
        · rintro m x H3 H4 hm ⟨s3, h3⟩ ⟨T, cc, y, rfl, hT, rfl, ec, ey⟩
          obtain ⟨x, rfl, hx⟩ := getI ec
          obtain ⟨n, rfl, hn'⟩ := getI ey
          have nb := r14_pos r h14 n (List.mem_of_getElem? hn')
          have bx := r14_it r h14 l hl x (List.mem_of_getElem? hx)
          have s4 : Same H2 (upd H3 T (.tup [.int x, .int n])) := same_new s3 hT
          have h4 : upd H3 T (.tup [.int x, .int n]) G = some (.lst (((repL r l (1 + (i : Int))).take m).map V.int)) := by rw [upd_ne (ne_of_none h3 hT)]; exact h3
          refine ⟨T, _, rfl, SqT.of upd_same, rfl, _, _, rfl, _, _, rfl, rfl, rfl, _, rfl, _, rfl, _, _, rfl, rfl, Or.inl ⟨by omega, by omega⟩, Or.inl ⟨_, rfl, _, rfl, _, _, rfl, rfl, by omega, ?_⟩⟩
          refine ⟨_, h4, sl_lt ?_, same_at s4 hG, ?_⟩
          · rw [List.length_map]
            exact Nat.le_trans (List.length_take_le' _ _) (by rw [repL_len]; omega)
          · rw [upd_same, takeS (repL_get hx hn'), List.map_append]
            rfl
        · rintro H3 ⟨s3, h3⟩
          rw [List.length_map, lw, ← repL_len r l (1 + (i : Int)), List.take_length] at h3
          refine ⟨G, _, rfl, .inl ⟨SqL.of h3, fun t ht => ?_⟩⟩
          have s4 : Same H3 (upd H3 t (.tup ((repL r l (1 + (i : Int))).map V.int))) := same_upd ht
          have h2D := s4 _ _ (s3 _ _ h2)
          have hkey : upd H3 t (.tup ((repL r l (1 + (i : Int))).map V.int)) t = some (.tup ((kq (repL r l (1 + (i : Int)))).map kV)) := by rw [kq_v]; exact upd_same
          have kl : kvs.length = qs.length := by
            have z := congrArg List.length kk
            rw [List.length_map, List.length_map] at z
            exact z
          refine ⟨D, _, rfl, DPut.t h2D hkey (sl_lt (by omega)), ?_⟩
          have uu : ((rgL 1 (i + 1)).filter fun j => decide (gcdI j (ordL r) = 1)) = ((rgL 1 i).filter fun j => decide (gcdI j (ordL r) = 1)) ++ [1 + (i : Int)] := by rw [rgF_succ, if_pos (decide_eq_true c1)]
          have sF := same_at (o := HO.dT (putK kvs (kq (repL r l (1 + (i : Int)))) (V.bl true))) ((s2.trans s3).trans s4) hD
          rcases Classical.em (repL r l (1 + (i : Int)) ∈ qs) with cm | cm
          · have cm2 : kq (repL r l (1 + (i : Int))) ∈ kvs.map (·.1) := by rw [kk]; exact List.mem_map_of_mem cm
            refine ⟨_, _, qs, rfl, sF, upd_same, by rw [keys_put cm2, kk], nd, by omega, fun q => ?_⟩
            rw [uu, List.map_append, List.mem_append, ← mq]
            refine ⟨.inl, fun w => w.elim id fun w => ?_⟩
            rw [List.mem_singleton.mp w]
            exact cm
          · have cm2 : valV kvs (kq (repL r l (1 + (i : Int)))) = none := by
              cases e : valV kvs (kq (repL r l (1 + (i : Int)))) with
              | none => rfl
              | some v =>
                have z := valV_in e
                rw [kk] at z
                obtain ⟨q, hq, e2⟩ := List.mem_map.mp z
                rw [kq_inj e2] at hq
                exact absurd hq cm
            refine ⟨_, _, qs ++ [repL r l (1 + (i : Int))], rfl, sF, upd_same, ?_, ?_, by simp; omega, fun q => ?_⟩
            · rw [putK_new _ cm2, List.map_append, kk, List.map_append]
              rfl
            · exact nd_snoc nd cm
            · rw [uu, List.map_append, List.mem_append, List.mem_append, mq]
              rfl
      · have c1 := neI c
        have uu : ((rgL 1 (i + 1)).filter fun j => decide (gcdI j (ordL r) = 1)) = ((rgL 1 i).filter fun j => decide (gcdI j (ordL r) = 1)) := by rw [rgF_succ, if_neg (by simpa using c1)]
        exact ⟨_, kvs, qs, rfl, s2, h2, kk, nd, by omega, fun q => by rw [uu]; exact mq q⟩
    · rintro σ H2 ⟨z, kvs, qs, rfl, s2, h2, kk, nd, ql, mq⟩
      have en : (ordL r + 1 - 1).toNat = (ordL r).toNat := by
        congr 1
        omega
      rw [en] at ql mq
      have pm := can_perm h14 nd mq
      refine ⟨_, rfl, D, kvs, rfl, .inl h2, fun p bs np ik => ?_⟩
      obtain ⟨bl, ba⟩ := keys_at ik kk
      have s3 : Same H2 (upd H2 p (.lst (bs.map V.ref))) := same_upd np
      refine ⟨p, bs.map V.ref, rfl, SqL.of upd_same, by rw [List.length_map]; omega, fun x hx => ?_, fun ys p2 py pw np2 => ?_⟩
      · obtain ⟨q, hq, t, rfl, ht⟩ := ba x hx
        refine ⟨q, ⟨t, rfl, SqT.of (s3 _ _ ht)⟩, ?_⟩
        obtain ⟨j, _, e⟩ := List.mem_map.mp ((mq q).mp hq)
        rw [← e]
        exact ⟨repL_len _ _ _, fun y hy => ⟨(repL_bd h14 y hy).1, Int.lt_of_lt_of_le (repL_bd h14 y hy).2 (by decide)⟩⟩
      · have s4 := same_new (o := HO.lst ys) s3 np2
        refine ⟨p2, _, rfl, .inl ⟨SqL.of upd_same, fun t ht => ?_⟩⟩
        refine k t ys _ ((s2.trans s4).trans (same_upd ht)) (SqT.of upd_same) ?_
        rw [py.length_eq, List.length_map, bl, pm.length_eq]
end
end K18

namespace K18
open PySem PySem.Spec PyProof.Rows L2
theorem farOk_of {r l : List Int} {i : Nat} (h : farOk r l i = true) : (1 ≤ gcdI (r.getD i 0) (l.getD i 0) ∧ gcdI (r.getD i 0) (l.getD i 0) ≤ 60) ∧ (1 ≤ r.getD i 0 / gcdI (r.getD i 0) (l.getD i 0) ∧ r.getD i 0 / gcdI (r.getD i 0) (l.getD i 0) ≤ 60) ∧ (1 ≤ ordP r l i ∧ ordP r l i ≤ 60) ∧
    (1 ≤ gcdI (ordP r l i) (r.getD i 0 / gcdI (r.getD i 0) (l.getD i 0)) ∧ gcdI (ordP r l i) (r.getD i 0 / gcdI (r.getD i 0) (l.getD i 0)) ≤ 60) := by
  unfold farOk at h
  simp only [Bool.and_eq_true, decide_eq_true_eq] at h
  exact ⟨⟨h.1, h.2.1⟩, ⟨h.2.2.1, h.2.2.2.1⟩, ⟨h.2.2.2.2.1, h.2.2.2.2.2.1⟩, ⟨h.2.2.2.2.2.2.1, h.2.2.2.2.2.2.2⟩⟩
def ramT (m gap : Int) (i : Nat) : List Int := ((rgL 1 i).filter fun d => decide (gap % d = 0)).map fun d => d * signL (m / d)
section
variable {P : Program} {w : World} {K : PySem.W.Frag} {mg : Str → Option Value} {base : Heap} {f f1 f2 f3 f4 f5 : Addr} {fd fd1 fd2 fd3 fd4 fd5 : FuncData}
def spLSum (K : PySem.W.Frag) : Sp := fun vs H Q _ => ∃ (d : Addr) (u z : V) (r l x : List Int), vs = [.ref d, u, z] ∧ FlD K H d r ∧ TupI K H u l ∧ TupI K H z x ∧ r ∈ R14 ∧ l ∈ placesL r ∧ x ∈ placesL r ∧ ∀ H', Same H H' → Q (.int (dueL r (ordL r) l x)) H'
theorem scLSum : FnScope ["floor", "label", "place", "e", "m", "x", "length", "far", "gap", "d"] ["floor", "label", "place"] (defScope sLSum) := ⟨rfl, rfl, rfl, by decide +kernel, rfl, by decide +kernel, by decide +kernel⟩
theorem ok_lSum (F : FnP K "_law_class_sum" sLSum f fd) (B : Bl mg) (F1 : FnP K "_law_common" sCommon f1 fd1) (g1 : mg "_law_common" = some (.ref f1)) (F2 : FnP K "_law_pairing" sLPair f2 fd2) (g2 : mg "_law_pairing" = some (.ref f2)) (F3 : FnP K "_law_sign" sSign f3 fd3) (g3 : mg "_law_sign" = some (.ref f3)) :
    FnOk P w K mg base CX0 2 f fd ["floor", "label", "place"] (spLSum K) := by
  have G1 : FnOk P w K mg base CX0 1 f1 fd1 ["one", "other"] spCommon := ok_common F1 B
  have G2 : FnOk P w K mg base CX0 1 f2 fd2 ["floor", "place", "label"] (spLPair K) := ok_lPair F2 B
  have G3 : FnOk P w K mg base CX0 1 f3 fd3 ["m"] spSign := ok_sign F3 B
  have b1 : Binds K fd1 ["one", "other"] [] := F1.bindsN fun _ _ _ _ _ _ us hl => match us, hl with | [_, _], _ => rfl
  have b2 : Binds K fd2 ["floor", "place", "label"] [] := F2.bindsN fun _ _ _ _ _ _ us hl => match us, hl with | [_, _, _], _ => rfl
  have b3 : Binds K fd3 ["m"] [] := F3.bindsN fun _ _ _ _ _ _ us hl => match us, hl with | [_], _ => rfl
  refine F.ok scLSum (fun vs H Q E h => ?_) (fun cdv A outer s H vs Q E hr h => ?_)
  · obtain ⟨d, u, z, r, l, x, rfl, _⟩ := h
    rfl
  · obtain ⟨d, u, z, r, l, x, rfl, ⟨a, pl, hd, ha, hpl⟩, ⟨b, rfl, hb⟩, ⟨c, rfl, hc⟩, h14, hl, hx, k⟩ := h
    have hu := hu_of hr
    refine ⟨_, PSs.nox (pss_cons (ps_asg (pe_tup (pa_cons (pe_dget hu (pv 0) pe_str (fun _ _ => rfl)) (pa_cons pe_int pa_nil))) (pg_tup rfl (pgs_cons (pg_name (i := 3) scLSum.nd rfl (Or.inl rfl)) (pgs_cons (pg_name (i := 4) scLSum.nd rfl (Or.inr rfl)) pgs_nil))))
      (pss_cons (ps_for PassesOwn.never rfl (RZ.pi_zipA rfl (B "zip" (by decide +kernel)) (pa_cons (pv 1) (pa_cons (pe_dget hu (pv 0) pe_str (fun _ _ => rfl)) pa_nil))) (pg_tup rfl (pgs_cons (pg_name (i := 5) scLSum.nd rfl (Or.inl rfl)) (pgs_cons (pg_name (i := 6) scLSum.nd rfl (Or.inl rfl)) pgs_nil)))
        (pss_cons (ps_set (i := 7) scLSum.nd rfl (Or.inl rfl) (pe_op op_fdiv (pv 6) (pe_call G1 hr rfl g1 F1.kp b1 .nil pass0 (pa_cons (pv 6) (pa_cons (pv 5) pa_nil)))))
        (pss_one (ps_set (i := 4) scLSum.nd rfl (Or.inr rfl) (pe_op op_fdiv (pe_op op_mul (pv 4) (pv 7)) (pe_call G1 hr rfl g1 F1.kp b1 .nil pass0 (pa_cons (pv 4) (pa_cons (pv 7) pa_nil))))))))
      (pss_cons (ps_set (i := 8) scLSum.nd rfl (Or.inr rfl) (pe_call G1 hr rfl g1 F1.kp b1 .nil pass0 (pa_cons (pv 4) (pa_cons (pe_op op_fdiv (pe_call G2 hr rfl g2 F2.kp b2 .nil pass0 (pa_cons (pv 0) (pa_cons (pv 2) (pa_cons (pv 1) pa_nil)))) (pe_op op_fdiv (pv 3) (pv 4))) pa_nil))))
      (pss_one (ps_ret (pe_callB (cr_sum rfl) (by rfl) (B "sum" (by decide +kernel)) (by decide +kernel) (pa_cons
        (pe_lc (own := [("d", 9)]) (g := gName 9) (tt := tTest (tOp rEq (tOp rMod (tCB rInt1 (tCons (tVar 8) tNil)) (tVar 9)) (tC (.int 0)))) (te := tOp rMul (tVar 9) (tCall spSign [] E0 (tCons (tOp rFdv (tVar 4) (tVar 9)) tNil))) rfl scLSum.nd
          (pi_range2 rfl (B "range" (by decide +kernel)) (pa_cons pe_int (pa_cons (pe_op op_add (pv 8) pe_int) pa_nil))) (blkOk_by (own := [("d", 9)]) (N := ["floor", "label", "place", "e", "m", "x", "length", "far", "gap", "d"]) (sc := defScope sLSum) (by decide +kernel))
          (fun _ _ _ _ _ => pg_name (i := 9) scLSum.nd rfl (Or.inl rfl))
          (fun _ _ _ _ _ => pts_one (pt_cmpR op_eq (pe_op op_mod (pe_callTy call_int1 (by rfl) (B "int" (by decide +kernel)) (by decide +kernel) (pa_cons (pv 8) pa_nil)) (pv 9)) pe_int (nomark _)))
          (fun _ _ _ _ _ => pe_op op_mul (pv 9) (pe_call G3 hr rfl g3 F3.kp b3 .nil pass0 (pa_cons (pe_op op_fdiv (pv 4) (pv 9)) pa_nil)))) pa_nil))))))), ?_⟩
    have hn := r14_len r h14
    have ll := r14_whole h14 hl
    have eb := e12_bd _ (e12_in r h14)
    have em := r14_m r h14 l hl
    refine ⟨_, rfl, d, _, rfl, fl_e hd, by show 2 ≤ sizeLine; decide, fun t0 ht0 => ?_⟩
    have s0 : Same H (upd H t0 (.tup [.int (ordL r), .int 1])) := same_upd ht0
    refine ⟨t0, _, rfl, SqT.of upd_same, rfl, _, _, rfl, _, _, rfl, rfl, ?_⟩
    refine ⟨_, rfl, _, rfl, d, _, rfl, fl_rings (s0 _ _ hd), b, a, _, _, rfl, .inr ⟨s0.tup hb, s0.tup ha, ?_⟩⟩
    refine RZ.for_zipT (K := K) (a := b) (b := a) (xs := l.map V.int) (ys := r.map V.int) (by rw [List.length_map, List.length_map, ll]) (fun i σ H2 => ∃ (y1 y2 y3 : Option V), σ = [some (.ref d), some (.ref b), some (.ref c), some (.int (ordL r)), some (.int (ordP r l i)), y1, y2, y3, none, none] ∧ Same H H2) ⟨none, none, none, rfl, s0⟩ (fun i σ H2 ⟨_, _, _, _, s2⟩ => ⟨s2.tup hb, s2.tup ha⟩) ?_ ?_
    · rintro i y1 y2 T σ H2 ey en ⟨q1, q2, q3, rfl, s2⟩ hT
      obtain ⟨y, rfl, hy⟩ := getI ey
      obtain ⟨n, rfl, hn'⟩ := getI en
      have hir := ltL hn'
      have fo := farOk_of (r14_far r h14 l hl i (List.mem_range.mpr hir))
      have e1 : r.getD i 0 = n := by rw [List.getD_eq_getElem?_getD, hn']; rfl
      have e2 : l.getD i 0 = y := by rw [List.getD_eq_getElem?_getD, hy]; rfl
      rw [e1, e2] at fo
      obtain ⟨f1', f2', f3', f4'⟩ := fo
      refine ⟨T, _, rfl, SqT.of upd_same, rfl, _, _, rfl, _, _, rfl, rfl, ?_⟩
      refine ⟨_, rfl, _, rfl, _, rfl, _, _, rfl, _, _, rfl, rfl, ⟨by omega, by omega⟩, ?_⟩
      refine ⟨_, rfl, _, rfl, _, _, rfl, rfl, Or.inl ⟨by omega, by omega⟩, _, rfl, _, rfl, _, _, rfl, _, _, rfl, rfl, ⟨by omega, by omega⟩, ?_⟩
      refine ⟨some (.int y), some (.int n), some (.int (n / gcdI n y)), ?_, same_new s2 hT⟩
      rw [ordP_succ hy hn']
      rfl
    · rintro σ H2 ⟨q1, q2, q3, rfl, s2⟩
      have eo : ordP r l (l.map V.int).length = ordGo r l := by rw [List.length_map, ll, ordP_all r l ll]
      rw [eo]
      refine ⟨_, rfl, _, rfl, _, rfl, _, rfl, d, _, _, r, x, l, rfl, s2.fld ⟨a, pl, hd, ha, hpl⟩, ⟨c, rfl, s2.tup hc⟩, ⟨b, rfl, s2.tup hb⟩, h14, hx, hl, fun H3 s3 => ?_⟩
      have pb := pair_bd r (e := ordL r) (by omega) x l
      refine ⟨_, rfl, _, rfl, _, _, rfl, rfl, ⟨by omega, by omega⟩, _, _, rfl, rfl, ⟨by omega, by omega⟩, _, _, rfl, ?_⟩
      have gb := gcdI_bd (a := ordGo r l) (b := pairL r (ordL r) x l / (ordL r / ordGo r l)) em.1
      have ef : (ramT (ordGo r l) (gcdI (ordGo r l) (pairL r (ordL r) x l / (ordL r / ordGo r l))) (gcdI (ordGo r l) (pairL r (ordL r) x l / (ordL r / ordGo r l))).toNat).sum = dueL r (ordL r) l x := rfl
      generalize gcdI (ordGo r l) (pairL r (ordL r) x l / (ordL r / ordGo r l)) = gap at gb ef
      refine ⟨_, rfl, _, _, rfl, rfl, 1, gap + 1, rfl, ⟨by omega, by omega, by omega, by omega⟩, fun D hD => ?_⟩
      have nD : H D = none := (s2.trans s3).free hD
      have en : (gap + 1 - 1).toNat = gap.toNat := by
        congr 1
        omega
      rw [en]
      refine lc_range (lo := 1) (n := gap.toNat) (fun i H4 => Same H H4 ∧ H4 D = some (.lst ((ramT (ordGo r l) gap i).map V.int))) ⟨same_new (s2.trans s3) hD, by rw [upd_same]; rfl⟩ ?_ ?_
      · rintro i H4 hi ⟨s4, h4⟩
        refine ⟨rfl, _, rfl, Or.inl ⟨_, rfl, _, rfl, _, _, rfl, rfl, by omega, rfl, _, rfl, ?_⟩⟩
        refine ite2 (fun cc => ?_) (fun cc => ?_)
        · have c1 := eqI cc
          refine ⟨_, rfl, _, rfl, _, rfl, _, _, rfl, rfl, ⟨by omega, by omega⟩, _, rfl, fun H5 s5 => ?_⟩
          refine ⟨_, _, rfl, rfl, Or.inl ⟨by omega, by omega⟩, ?_⟩
          refine ⟨_, s5 _ _ h4, sl_lt ?_, same_at (s4.trans s5) nD, ?_⟩
          · rw [List.length_map]
            unfold ramT
            rw [List.length_map]
            exact Nat.le_trans (List.length_filter_le _ _) (by rw [rgL_len]; omega)
          · have er : ramT (ordGo r l) gap (i + 1) = ramT (ordGo r l) gap i ++ [(1 + (i : Int)) * signL (ordGo r l / (1 + (i : Int)))] := by
              unfold ramT
              rw [rgF_succ, if_pos (decide_eq_true c1), List.map_append]
              rfl
            rw [upd_same, er, List.map_append]
            rfl
        · have c1 := neI cc
          have er : ramT (ordGo r l) gap (i + 1) = ramT (ordGo r l) gap i := by
            unfold ramT
            rw [rgF_succ, if_neg (by simpa using c1)]
          exact ⟨s4, by rw [er]; exact h4⟩
      · rintro H4 ⟨s4, h4⟩
        refine ⟨D, _, rfl, SqL.of h4, ?_⟩
        rw [ef]
        exact k H4 s4
end
end K18

/-! tuple * 1; a call by keywords alone. -/
namespace K18
open PySem PySem.Spec PyProof.Rows L2
theorem tuple_mul1 (l : Addr) (items : Array Value) (n : Nat) (dd : Option Addr) (sl : Array (Option Value)) (u : Tok) :
    Meets (Builtin.«tuple.__mul__» ⟨[.ref l, .int 1 u], []⟩) (fun _ R s => s.heap.get? l = some { cls := .type "tuple", dict := dd, data := .seq items n, slots := sl } ∧ R (.ok (.ret (Value.ref l))) s) :=
  .of_wp fun prog w A R s h => by
    obtain ⟨hp, g, d, tk, os⟩ := s
    obtain ⟨hl, h⟩ := h
    have f1 := AutoSeq1.idx_int
    wp_walk using wpAny_loadPart' hl
    exact ⟨_, rfl, h⟩
def rRepT1 (K : PySem.W.Frag) : R2 := fun x y H Q => ∃ l xs, x = .ref l ∧ y = .int 1 ∧ SqT K H l xs ∧ Q (.ref l) H
section
variable {X : Cx}
theorem op_repT1 : OpR X (binaryOp .Mult) (rRepT1 X.K) := by
  intro pins s σ H x y v u Q I rx ry h
  obtain ⟨l, xs, rfl, rfl, hT, q⟩ := h
  cases rx
  obtain ⟨t, rfl⟩ := ry
  obtain ⟨its, r, ⟨⟨cls, dd, data, sl⟩, ho, hc, n, hd⟩, hs⟩ := I.tuple hT
  simp only at hc hd
  subst hc hd
  refine wpAny_binaryOp_repeat_ref (T := "tuple") (U := "int") (by decide) ⟨_, ho, rfl⟩ (fun s' => typeIs_int s' 1 t) noFill_tuple_mul F.fills_int_mul F.slot_int_rmul repeat_tuple F.slot_int_index.lookup
    (call_meets F.slot_int_rmul (typeIs_int s 1 t) F.entry_int_rmul (F.args_int_rmul_2 _ _) (int_rmul_tuple 1 t l its.toArray n dd sl)
      ⟨ho, rfl, ⟨_, ho, rfl⟩, call_meets F.slot_tuple_mul ⟨_, ho, rfl⟩ F.entry_tuple_mul (F.args_tuple_mul_2 _ _) (tuple_mul1 l its.toArray n dd sl t) ⟨ho, ?_⟩⟩)
  exact ⟨.ref l, H, I, rfl, q⟩
end
section
variable {X : Cx} {CX : CXT} {k : Nat} {f C : Addr} {fd : FuncData} {ps ks : List Str} {sp : Sp} {E : XK} {x m : Str} {p pos apos kpos : Pos} {kws : List Keyword} {tk : TA} {g : List Value → List Value → List Value} {gV : List V → List V → List V}
/-- f(k = v, ..), nothing by position -/
theorem pe_callK0 (F : FnOk X.prog X.w X.K X.mg X.base CX k f fd ps sp) (hr : Room k X.A) (hg : Gl X x) (hm : X.mg x = some (.ref f)) (hk : PySem.W.keepIn X.K (.ref f) = true) (hb : KBinds X.K fd ps ks g gV) (hx : Passes CX X E)
    (hkw : PK X kws tk) (hall : (backToKw pos (keywordEach kws X.env)).all (·.1.isSome) = true := by rfl) (hks : (backToKw pos (keywordEach kws X.env)).filterMap (·.1) = ks := by rfl)
    (hdb : (x == ("__debug__" : Str)) = false := by decide)
    (hpl : ((backTo pos (starEach [] X.env)).any (·.1) || (backToKw pos (keywordEach kws X.env)).any (·.1.isNone)) = false := by rfl) :
    PE X (.Call (.Name x p) [] kws pos) (tCallK sp gV E tNil tk) := by
  refine ⟨fun pins s σ H Q I h => ?_⟩
  refine wpAny_Call_Name_kw (ld_glob I hg hm ?_ hdb)
  refine PySem.W.callWith_KW0 (h₀ := X.base) I.ok.mod.kin hk hall (thn (hkw.run pos pins s σ H _ I h) fun ws s2 ⟨zs, H2, I2, rz, q2⟩ => ⟨I2.kIn, ?_⟩) hpl
  rw [hks]
  exact run_fnk (us := []) (vs := []) F hr hb hx I2 .nil rz q2
end
/-- three keywords, in the other order -/
def g3 : List Value → List Value → List Value
  | [], [p, l, r] => [r, l, p]
  | _, _ => []
def g3V : List V → List V → List V
  | [], [p, l, r] => [r, l, p]
  | _, _ => []
theorem g3_rel {vs : List V} {us : List Value} {zs : List V} {ws : List Value} (r : Vals vs us) (rz : Vals zs ws) : Vals (g3V vs zs) (g3 us ws) := by
  cases r with
  | nil =>
    cases rz with
    | nil => exact .nil
    | cons r1 rz =>
      cases rz with
      | nil => exact .nil
      | cons r2 rz =>
        cases rz with
        | nil => exact .nil
        | cons r3 rz =>
          cases rz with
          | nil => exact .cons r3 (.cons r2 (.cons r1 .nil))
          | cons r4 rz => exact .nil
  | cons a b => cases rz <;> exact .nil
theorem clS_kb {K : PySem.W.Frag} {f : Addr} {fd : FuncData} (F : FnP K "class_sum" sClSum f fd) : KBinds K fd ["rings", "label", "place"] ["place", "label", "rings"] g3 g3V := by
  refine ⟨fun s us ws KX hl => ?_, fun r rz => g3_rel r rz⟩
  obtain ⟨oc, od, dV, kV, doc, pm, an, cdv, ct, osl, rfl, lk, hcd, hD, hK⟩ := F.ex
  rcases hD with ⟨_, rfl⟩ | ⟨e, _⟩
  · match us, ws, hl with
    | [], [p, l, r], _ => exact .of_eq rfl
    | [], [], h => exact absurd h (by decide)
    | [], [_], h => exact absurd h (by show ¬ (0 : Nat) = 3; decide)
    | [], [_, _], h => exact absurd h (by show ¬ (0 : Nat) = 3; decide)
    | [], _ :: _ :: _ :: _ :: _, h => exact absurd h (by show ¬ (0 : Nat) = 3; decide)
    | _ :: _, _, h => exact absurd h (by show ¬ (0 : Nat) = 3; decide)
  · exact absurd rfl e
end K18

/-! The remainder's first item is linear; class sums are what the law asks. -/
namespace K18
open PySem PySem.Spec PyProof.Rows L2
theorem getD_cons_zero' (a : Int) (l : List Int) : (a :: l).getD 0 0 = a := rfl
theorem getD_cons_succ' (a : Int) (l : List Int) (i : Nat) : (a :: l).getD (i + 1) 0 = l.getD i 0 := rfl
theorem dot_zero : ∀ (as : List Int) (n : Nat), dotL as (List.replicate n 0) = 0
  | [], n => by cases n <;> rfl
  | a :: as, 0 => rfl
  | a :: as, n + 1 => by
    show a * 0 + dotL as (List.replicate n 0) = 0
    rw [dot_zero as n]
    omega
theorem dot_snoc : ∀ (as cs : List Int) (h c : Int), as.length = cs.length → dotL (as ++ [h]) (cs ++ [c]) = dotL as cs + h * c
  | [], [], h, c, _ => by show h * c + 0 = 0 + h * c; omega
  | [], _ :: _, h, c, e => by simp at e
  | _ :: _, [], h, c, e => by simp at e
  | a :: as, b :: cs, h, c, e => by
    show a * b + dotL (as ++ [h]) (cs ++ [c]) = a * b + dotL as cs + h * c
    rw [dot_snoc as cs h c (by simpa using e)]
    omega
theorem dot_set : ∀ (as cs : List Int) (i : Nat) (v : Int), i < as.length → dotL (as.set i v) cs = dotL as cs + (v - as.getD i 0) * cs.getD i 0
  | [], cs, i, v, h => by simp at h
  | a :: as, [], i, v, h => by
    cases i with
    | zero => show (0 : Int) = 0 + _ * 0; omega
    | succ i => show (0 : Int) = 0 + _ * 0; omega
  | a :: as, b :: cs, 0, v, h => by
    show v * b + dotL as cs = a * b + dotL as cs + (v - a) * b
    rw [Int.sub_mul]
    omega
  | a :: as, b :: cs, i + 1, v, h => by
    show a * b + dotL (as.set i v) cs = a * b + dotL as cs + (v - as.getD i 0) * cs.getD i 0
    rw [dot_set as cs i v (by simpa using h)]
    omega
theorem sub_dot (h : Int) (dv cs : List Int) (n : Nat) (rest : List Int) : ∀ k, n + k ≤ rest.length → dotL (subN h dv n rest k) cs = dotL rest cs - h * sumC dv cs n k
  | 0, _ => by show dotL rest cs = dotL rest cs - h * 0; omega
  | k + 1, hk => by
    show dotL ((subN h dv n rest k).set (n + k) ((subN h dv n rest k).getD (n + k) 0 - h * dv.getD k 0)) cs = dotL rest cs - h * (sumC dv cs n k + dv.getD k 0 * cs.getD (n + k) 0)
    rw [dot_set _ _ _ _ (by rw [subN_len]; omega), sub_dot h dv cs n rest k (by omega), Int.mul_add, ← Int.mul_assoc]
    have e : (subN h dv n rest k).getD (n + k) 0 - h * dv.getD k 0 - (subN h dv n rest k).getD (n + k) 0 = -(h * dv.getD k 0) := by omega
    rw [e, Int.neg_mul]
    omega
theorem cv_len (deg : Nat) (dv : List Int) (hd : 1 ≤ deg) : ∀ n, (cv deg dv n).length = deg + n
  | 0 => by
    show (1 :: List.replicate (deg - 1) 0).length = deg + 0
    rw [List.length_cons, List.length_replicate]
    omega
  | n + 1 => by
    show (cv deg dv n ++ [_]).length = deg + (n + 1)
    rw [List.length_append, cv_len deg dv hd n]
    rfl
theorem snoc_last : ∀ (l : List Int), l ≠ [] → l.dropLast ++ [l.getLastD 0] = l := fun l h => by
  have := List.dropLast_concat_getLast h
  have e : l.getLastD 0 = l.getLast h := by
    cases l with
    | nil => exact absurd rfl h
    | cons a l => simp [List.getLastD, List.getLast?_cons]
  rw [e]
  exact this
theorem div_dot (deg : Nat) (dv : List Int) (hd : 1 ≤ deg) : ∀ n rest quo, rest.length = deg + n → (divGo deg dv n rest quo).2.getD 0 0 = dotL rest (cv deg dv n)
  | 0, rest, quo, hl => by
    show rest.getD 0 0 = dotL rest (1 :: List.replicate (deg - 1) 0)
    cases rest with
    | nil => simp at hl; omega
    | cons a as =>
      show a = a * 1 + dotL as (List.replicate (deg - 1) 0)
      rw [dot_zero]
      omega
  | n + 1, rest, quo, hl => by
    have hne : rest ≠ [] := fun e => by rw [e] at hl; simp at hl
    have hn : rest.length - 1 - deg = n := by omega
    have hds : (divStep deg dv rest).length = deg + n := by
      unfold divStep
      rw [subN_len, List.length_dropLast]
      omega
    show (divGo deg dv n (divStep deg dv rest) (quo ++ [rest.getLastD 0])).2.getD 0 0 = dotL rest (cv deg dv n ++ [- sumC dv (cv deg dv n) n deg])
    rw [div_dot deg dv hd n _ _ hds]
    have e2 : dotL rest (cv deg dv n ++ [- sumC dv (cv deg dv n) n deg]) = dotL (rest.dropLast ++ [rest.getLastD 0]) (cv deg dv n ++ [- sumC dv (cv deg dv n) n deg]) := by rw [snoc_last rest hne]
    rw [e2, dot_snoc _ _ _ _ (by rw [List.length_dropLast, cv_len deg dv hd]; omega)]
    unfold divStep
    rw [hn, sub_dot _ _ _ _ _ _ (by rw [List.length_dropLast]; omega), Int.mul_neg]
    omega
theorem red_dot {xs dv : List Int} (h1 : 2 ≤ dv.length) (h2 : dv.length ≤ xs.length) : (redL xs dv).getD 0 0 = dotL xs (cv (dv.length - 1) dv (xs.length - (dv.length - 1))) := by
  have hl := divL_len (xs := xs) (dv := dv) (by omega) h2
  have e : (redL xs dv).getD 0 0 = (divL xs dv).2.getD 0 0 := by
    unfold redL
    rw [List.getD_eq_getElem?_getD, List.getElem?_append_left (by omega), ← List.getD_eq_getElem?_getD]
  rw [e]
  exact div_dot (dv.length - 1) dv (by omega) _ _ _ (by omega)
theorem cnt_dot {r : List Int} {e : Int} (he : 0 < e) (x : List Int) (cs : List Int) : ∀ (ps : List (List Int)) , dotL (cntL r e x ps) cs = (ps.map fun q => cs.getD (pairL r e x q).toNat 0).sum := by
  have key : ∀ (k : Nat) (ps : List (List Int)), ps.length = k → dotL (cntL r e x ps) cs = (ps.map fun q => cs.getD (pairL r e x q).toNat 0).sum := by
    intro k
    induction k with
    | zero =>
      intro ps h
      rw [List.eq_nil_of_length_eq_zero h, cnt_nil]
      have : ∀ (n : Nat) (cs : List Int), dotL (List.replicate n 0) cs = 0 := fun n => by
        induction n with
        | zero => intro cs; rfl
        | succ n ih =>
          intro cs
          cases cs with
          | nil => rfl
          | cons c cs =>
            show 0 * c + dotL (List.replicate n 0) cs = 0
            rw [ih cs]
            omega
      exact this _ _
    | succ k ih =>
      intro ps h
      have hne : ps ≠ [] := fun z => by rw [z] at h; simp at h
      have hp := List.dropLast_concat_getLast hne
      generalize ps.getLast hne = q at hp
      generalize hd : ps.dropLast = ds at hp
      have hl : ds.length = k := by rw [← hd, List.length_dropLast]; omega
      rw [← hp]
      have pb := pair_bd r he x q
      have hj : pairL r e x q = ((pairL r e x q).toNat : Int) := by omega
      rw [cnt_snoc hj, dot_set _ _ _ _ (by rw [cnt_len]; omega), ih ds hl, List.map_append, List.sum_append]
      simp only [List.map_cons, List.map_nil, List.sum_cons, List.sum_nil]
      have e : (cntL r e x ds).getD (pairL r e x q).toNat 0 + 1 - (cntL r e x ds).getD (pairL r e x q).toNat 0 = 1 := by omega
      rw [e]
      omega
  exact fun ps => key _ ps rfl
end K18

namespace K18
theorem tz_keys : tabZ.map (fun t => t.2.1) = R14 := by decide +kernel
theorem tz_in : ∀ t ∈ tabZ, ∀ c ∈ t.2.2, c.1 ∈ placesL t.2.1 := by decide +kernel
theorem te_vec : ∀ t ∈ tabE, vecOf t.1 = t.2.2 := by decide +kernel
theorem te_keys : E12 = tabE.map (·.1) := by decide +kernel
theorem st0_in : ∀ r ∈ R14, st0 r ∈ placesL r := by decide +kernel
theorem r14_dvd : ∀ r ∈ R14, ∀ n ∈ r, ordL r % n = 0 := by decide +kernel
theorem r14_sz : ∀ r ∈ R14, r.foldl (fun a b => a * b) 1 = sizeL r := by decide +kernel
/-- the table's row of a label -/
structure Row (r l : List Int) : Type where
  t : Int × List Int × List (List Int × List (List Int))
  c : List Int × List (List Int)
  ht : t ∈ tabZ
  hr : t.2.1 = r
  he : ordL r = t.1
  hc : c ∈ t.2.2
  hl : l ∈ c.2
theorem row_ex {r l : List Int} (h : r ∈ R14) (hl : l ∈ placesL r) : Nonempty (Row r l) := by
  rw [← tz_keys] at h
  obtain ⟨t, ht, rfl⟩ := List.mem_map.mp h
  have h2 : t.2 ∈ tabR := (List.of_mem_zip (show (t.1, t.2) ∈ eL14.zip tabR from ht)).2
  obtain ⟨c, hc, e⟩ := List.any_eq_true.mp (tabR_all _ h2 l hl)
  exact ⟨⟨t, c, ht, rfl, z_ord t ht, hc, of_decide_eq_true e⟩⟩
theorem Row.can {r l : List Int} (R : Row r l) : canL r l = R.c.2 := by
  have h2 : R.t.2 ∈ tabR := (List.of_mem_zip (show (R.t.1, R.t.2) ∈ eL14.zip tabR from R.ht)).2
  have := tabR_can _ h2 R.c R.hc l R.hl
  rw [R.hr] at this
  exact this
theorem ram_gap (m p q : Int) (m' p' q' : Int) (h1 : m = m') (h2 : gcdI m (p / q) = gcdI m' (p' / q')) : ramL m p q = ramL m' p' q' := by
  unfold ramL
  rw [h2, h1]
theorem Row.due {r l : List Int} (R : Row r l) {k x : List Int} (hk : k ∈ R.c.2) (hx : x ∈ placesL r) : dueL r (ordL r) k x = dueL r (ordL r) R.c.1 x := by
  obtain ⟨t, c, ht, rfl, he, hc, hl⟩ := R
  have m1 := z_m t ht c hc k hk
  have g1 := z_gap t ht c hc k hk x hx
  rw [he]
  unfold dueL
  refine ram_gap _ _ _ _ _ _ m1 ?_
  unfold gapM at g1
  rw [m1]
  exact g1
theorem due_kin {r l k x : List Int} (h : r ∈ R14) (hl : l ∈ placesL r) (hk : k ∈ canL r l) (hx : x ∈ placesL r) : dueL r (ordL r) k x = dueL r (ordL r) l x := by
  obtain ⟨R⟩ := row_ex h hl
  rw [R.can] at hk
  rw [R.due hk hx, R.due R.hl hx]
theorem due_bd {r l x : List Int} (h : r ∈ R14) (hl : l ∈ placesL r) (hx : x ∈ placesL r) : -60 ≤ dueL r (ordL r) l x ∧ dueL r (ordL r) l x ≤ 60 := by
  obtain ⟨R⟩ := row_ex h hl
  rw [R.due R.hl hx]
  obtain ⟨t, c, ht, rfl, he, hc, hl⟩ := R
  rw [he]
  exact z_bd t ht c hc x hx
theorem cs_due {r l x : List Int} (h : r ∈ R14) (hl : l ∈ placesL r) (hx : x ∈ placesL r) : csV r l x = dueL r (ordL r) l x := by
  obtain ⟨R⟩ := row_ex h hl
  have he := e12_in r h
  have pl := e12_poly _ he
  have eb := e12_bd _ he
  rw [R.due R.hl hx]
  unfold csV csL
  rw [R.can, red_dot pl.1 (by rw [cnt_len]; exact pl.2.1), cnt_dot (by omega)]
  have hv : cv ((polyL (ordL r)).length - 1) (polyL (ordL r)) ((cntL r (ordL r) x R.c.2).length - ((polyL (ordL r)).length - 1)) = vecOf (ordL r) := by
    rw [cnt_len]
    rw [te_keys] at he
    obtain ⟨u, hu, e⟩ := List.mem_map.mp he
    obtain ⟨q1, q2⟩ := tabE_ok u hu
    rw [← e, te_vec u hu, q1]
    exact q2
  rw [hv]
  obtain ⟨t, c, ht, rfl, he, hc, hl⟩ := R
  rw [he]
  exact z_due t ht c hc x hx
/-! ### the place taken j times -/
theorem go_rep {r : List Int} {e j : Int} {x l : List Int} (hd : ∀ i, i < r.length → e % r.getD i 0 = 0) : ∀ n, n ≤ r.length → ∃ t, pairGo r e (repL r x j) l n = j * pairGo r e x l n + e * t
  | 0, _ => ⟨0, by show (0 : Int) = j * 0 + e * 0; omega⟩
  | n + 1, hn => by
    obtain ⟨t, ht⟩ := go_rep (r := r) (e := e) (j := j) (x := x) (l := l) hd n (by omega)
    have e1 : (repL r x j).getD n 0 = x.getD n 0 * j % r.getD n 0 := by
      unfold repL
      rw [List.getD_eq_getElem?_getD, List.getElem?_map, List.getElem?_range (by omega)]
      rfl
    have hq := hd n (by omega)
    generalize hR : r.getD n 0 = R at *
    generalize hX : x.getD n 0 = X at *
    generalize hL : l.getD n 0 = L at *
    have e2 : R * (e / R) = e := Int.mul_ediv_cancel' (Int.dvd_of_emod_eq_zero hq)
    have e3 : X * j % R = X * j - R * (X * j / R) := Int.emod_def _ _
    refine ⟨t - X * j / R * L, ?_⟩
    show pairGo r e (repL r x j) l n + (repL r x j).getD n 0 * l.getD n 0 * (e / r.getD n 0) = j * (pairGo r e x l n + x.getD n 0 * l.getD n 0 * (e / r.getD n 0)) + e * (t - X * j / R * L)
    rw [ht, e1, hR, hX, hL, e3]
    generalize X * j / R = W
    generalize hG : e / R = G at *
    have e4 : R * W * L * G = e * (W * L) := by
      rw [← e2]
      simp [Int.mul_comm, Int.mul_left_comm, Int.mul_assoc]
    rw [Int.sub_mul, Int.sub_mul, e4, Int.mul_add, Int.mul_sub]
    have e5 : X * j * L * G = j * (X * L * G) := by simp [Int.mul_comm, Int.mul_left_comm, Int.mul_assoc]
    rw [e5]
    omega
theorem pair_rep {r : List Int} (h : r ∈ R14) (x l : List Int) (j : Int) : pairL r (ordL r) (repL r x j) l = (pairL r (ordL r) x l * j) % ordL r := by
  obtain ⟨t, ht⟩ := go_rep (r := r) (e := ordL r) (j := j) (x := x) (l := l) (fun i hi => r14_dvd r h _ (by rw [List.getD_eq_getElem?_getD, List.getElem?_eq_getElem hi]; exact List.getElem_mem hi)) r.length (Nat.le_refl _)
  unfold pairL
  rw [ht, Int.add_mul_emod_self_left, Int.mul_comm (pairGo r (ordL r) x l r.length % ordL r) j, Int.mul_emod, Int.mul_emod j (pairGo r (ordL r) x l r.length % ordL r), Int.emod_emod_of_dvd _ (Int.dvd_refl _)]
theorem due_place {r l x : List Int} {j : Int} (h : r ∈ R14) (hl : l ∈ placesL r) (hx : x ∈ placesL r) (hj : j ∈ unitsL (ordL r)) : dueL r (ordL r) l (repL r x j) = dueL r (ordL r) l x := by
  obtain ⟨R⟩ := row_ex h hl
  unfold dueL
  refine ram_gap _ _ _ _ _ _ rfl ?_
  rw [pair_rep h]
  have he := e12_in r h
  have eb := e12_bd _ he
  have pb := pair_bd r (e := ordL r) (by omega) x l
  obtain ⟨t, c, ht, rfl, he', hc, hlc⟩ := R
  obtain ⟨d1, d2, d3⟩ := z_div t ht c hc
  have m1 := z_m t ht c hc l hlc
  have p1 := d3 l hlc x hx
  rw [← m1] at d1 d2 p1
  rw [← he'] at d1 p1
  refine z_units _ he _ ?_ d1 _ ?_ p1 j hj
  · unfold rgL
    exact List.mem_map.mpr ⟨(ordGo t.2.1 l - 1).toNat, List.mem_range.mpr (by omega), by omega⟩
  · unfold rgL
    exact List.mem_map.mpr ⟨(pairL t.2.1 (ordL t.2.1) x l).toNat, List.mem_range.mpr (by omega), by omega⟩
theorem rep_can {r l : List Int} {j : Int} (h : r ∈ R14) (hj : j ∈ unitsL (ordL r)) : repL r l j ∈ canL r l := by
  unfold canL
  refine List.mem_filter.mpr ⟨repL_in h, decide_eq_true ?_⟩
  unfold kinS
  exact List.mem_map.mpr ⟨j, hj, rfl⟩
theorem can_in {r l k : List Int} (h : k ∈ canL r l) : k ∈ placesL r := (List.mem_filter.mp h).1
/-! ### the origin -/
theorem due_st1 {r x : List Int} (h : r ∈ R14) (hx : x ∈ placesL r) : dueL r (ordL r) (st0 r) x = 1 := by
  obtain ⟨R⟩ := row_ex h hx
  obtain ⟨t, c, ht, rfl, he, hc, hl⟩ := R
  rw [he]
  exact z_st1 t ht x hx
theorem due_st2 {r l : List Int} (h : r ∈ R14) (hl : l ∈ placesL r) : dueL r (ordL r) l (st0 r) = ((canL r l).length : Nat) := by
  obtain ⟨R⟩ := row_ex h hl
  rw [R.can, R.due R.hl (st0_in r h)]
  obtain ⟨t, c, ht, rfl, he, hc, hl⟩ := R
  rw [he]
  exact z_st2 t ht c hc
theorem can_len {r l : List Int} (h : r ∈ R14) : (canL r l).length ≤ 60 := Nat.le_trans (List.length_filter_le _ _) (r14_n h)
/-! ### all classes -/
theorem reps_in {r : List Int} (h : r ∈ R14) : ∀ l ∈ repsL r, l ∈ placesL r := by
  rw [← tz_keys] at h
  obtain ⟨t, ht, rfl⟩ := List.mem_map.mp h
  have h2 : t.2 ∈ tabR := (List.of_mem_zip (show (t.1, t.2) ∈ eL14.zip tabR from ht)).2
  intro l hl
  rw [tabR_reps _ h2] at hl
  obtain ⟨c, hc, rfl⟩ := List.mem_map.mp hl
  exact tz_in t ht c hc
theorem sum_reps {r x : List Int} (h : r ∈ R14) (hx : x ∈ placesL r) : ((repsL r).map fun l => dueL r (ordL r) l x).sum = if x = st0 r then sizeL r else 0 := by
  rw [← tz_keys] at h
  obtain ⟨t, ht, rfl⟩ := List.mem_map.mp h
  have h2 : t.2 ∈ tabR := (List.of_mem_zip (show (t.1, t.2) ∈ eL14.zip tabR from ht)).2
  have h3 : t.2.1 ∈ R14 := by rw [← tz_keys]; exact List.mem_map.mpr ⟨t, ht, rfl⟩
  rw [tabR_reps _ h2, List.map_map, z_ord t ht, ← r14_sz _ h3]
  exact z_sum t ht x hx
def smOk (i : Int) : Bool := let d : PySem.PyData := .list [.int i, .int i, .int i, .int i]; d.showable && (decide (d.depth ≤ 40) && decide (d.shown.length ≤ 100000))
def smOk1 (i : Int) : Bool := let d : PySem.PyData := .list [.int 1, .int i]; d.showable && (decide (d.depth ≤ 40) && decide (d.shown.length ≤ 100000))
theorem sm_ok : ∀ i ∈ rgL (-60) 121, smOk i = true ∧ smOk1 i = true := by decide +kernel
end K18

/-! What the law's def needs: decks and floors side by side, literal tuples, repr of lists of ints. -/
namespace K18
open PySem PySem.Spec PyProof.Rows L2
/-! ### repr of a list of ints -/
inductive Dq (H : Hp) : V → PyData → Prop
  | lst {a : Addr} {ns : List Int} : H a = some (.lst (ns.map V.int)) → Dq H (.ref a) (.list (ns.map PyData.int))
theorem ints_reads {h : Heap} : ∀ (ns : List Int) (us : List Value), Vals (ns.map V.int) us → ReadsAll h us (ns.map PyData.int) []
  | [], us, r => by
    cases r
    exact .nil
  | n :: ns, us, r => by
    cases r with
    | cons r1 r2 =>
      obtain ⟨t, rfl⟩ := (show ∃ t, _ = Value.int n t from r1)
      exact ReadsAll.cons (.int n t) (ints_reads ns _ r2)
theorem no_dict (ns : List Int) : (PyData.list (ns.map PyData.int)).hasDict = false := by
  have h : PyData.hasDictAll (ns.map PyData.int) = false := by
    induction ns with
    | nil => rfl
    | cons n r ih => simp [PyData.hasDictAll, PyData.hasDict, ih]
  simpa [PyData.hasDict] using h
structure Small (d : PyData) : Prop where
  sh : d.showable = true
  dp : d.depth ≤ 40
  ln : d.shown.length ≤ 100000
def rRepr : List V → Hp → VK → Prop := fun xs H Q => ∃ (a : Addr) (ns : List Int), xs = [.ref a] ∧ H a = some (.lst (ns.map V.int)) ∧ Small (.list (ns.map PyData.int)) ∧ Q (.str (PyData.list (ns.map PyData.int)).shown) H
theorem call_repr {X : Cx} (hg : X.A.guards = some []) (hu : X.A.units + 64 < cLine) : CallR X (.builtin "repr") rRepr := by
  intro pins s σ H xs us Q I r h
  obtain ⟨a, ns, rfl, hd, hs, q⟩ := h
  obtain ⟨u, rfl, ru⟩ := vals1 r
  cases (show u = Value.ref a from ru)
  obtain ⟨_, its, n, rv, ho⟩ := I.hok a _ hd
  have hz : (PyData.list (ns.map PyData.int)).shown.length ≤ sizeLine := Nat.le_trans hs.ln (by rw [sizeLine_eq]; omega)
  refine repr_of_reads' (.list ho rfl rfl (ints_reads ns its rv)) hs.sh (fun z => ?_) hg (by have := hs.dp; omega) (fun _ _ e => e) (fun h' t tk hk => ?_) hz
  · rw [no_dict] at z
    cases z
  · exact ⟨.str _, H, I.kept hk, ⟨t, rfl⟩, q⟩
/-! ### decks and floors -/
theorem deck_ref {d l : Addr} {H : Hp} (D : DeckAt d l H) : (∃ m k, H d = some (.dK (deckKV l m k))) ∧ ∃ ns : List Int, H l = some (.lst (ns.map V.int)) := by
  obtain ⟨ns, m, k, h1, h2, _⟩ := D
  exact ⟨⟨m, k, h1⟩, ns, h2⟩
theorem _root_.L2.Same.deck {d l : Addr} {H H' : Hp} (s : Same H H') (D : DeckAt d l H) : DeckAt d l H' := by
  obtain ⟨ns, m, k, h1, h2, h3⟩ := D
  exact ⟨ns, m, k, s _ _ h1, s _ _ h2, h3⟩
section
variable {K : PySem.W.Frag} {d l : Addr} {H H' : Hp}
theorem Keeps.sqt (k : Keeps d l H H') (D : DeckAt d l H) {a : Addr} {xs : List V} (h : SqT K H a xs) : SqT K H' a xs := by
  obtain ⟨⟨m, j, h1⟩, ns, h2⟩ := deck_ref D
  rcases h with h | h
  · rcases h with h | ⟨o, h⟩
    · exact .inl (.inl (k _ _ h (ne_of h h1 (by intro z; cases z)) (ne_of h h2 (by intro z; cases z))))
    · exact .inl (.inr ⟨o, k _ _ h (ne_of h h1 (by intro z; cases z)) (ne_of h h2 (by intro z; cases z))⟩)
  · exact .inr h
theorem Keeps.tupI (k : Keeps d l H H') (D : DeckAt d l H) {v : V} {ns : List Int} (h : TupI K H v ns) : TupI K H' v ns := by
  obtain ⟨t, rfl, q⟩ := h
  exact ⟨t, rfl, k.sqt D q⟩
theorem pl_ne (D : DeckAt d l H) {a : Addr} {r : List Int} (hr : r ∈ R14) (h : PlL K H a (placesL r)) : a ≠ l := by
  obtain ⟨_, ns, h2⟩ := deck_ref D
  obtain ⟨ks, h3, h4, _⟩ := h
  rintro rfl
  rw [h3] at h2
  have e := HO.lst.inj (Option.some.inj h2)
  have hn : 0 < (placesL r).length := List.length_pos_iff.mpr (List.ne_nil_of_mem (st0_in r hr))
  rw [← h4, List.length_map] at hn
  cases ks with
  | nil => simp at hn
  | cons k ks =>
    cases ns with
    | nil => simp [rf] at e
    | cons n ns =>
      simp only [rf, List.map_cons] at e
      cases e
theorem Keeps.pll (k : Keeps d l H H') (D : DeckAt d l H) {a : Addr} {r : List Int} (hr : r ∈ R14) (h : PlL K H a (placesL r)) : PlL K H' a (placesL r) := by
  have hl := pl_ne D hr h
  obtain ⟨⟨m, j, h1⟩, _⟩ := deck_ref D
  obtain ⟨ks, h3, h4, h5⟩ := h
  exact ⟨ks, k _ _ h3 (ne_of h3 h1 (by intro z; cases z)) hl, h4, fun p hp => k.sqt D (h5 p hp)⟩
theorem Keeps.fld (k : Keeps d l H H') (D : DeckAt d l H) {f : Addr} {r : List Int} (hr : r ∈ R14) (h : FlD K H f r) : FlD K H' f r := by
  obtain ⟨⟨m, j, h1⟩, ns, h2⟩ := deck_ref D
  obtain ⟨a, pl, q1, q2, q3⟩ := h
  refine ⟨a, pl, k _ _ q1 ?_ (ne_of q1 h2 (by intro z; cases z)), k.sqt D q2, k.pll D hr q3⟩
  refine ne_of q1 h1 fun z => ?_
  have e := HO.dK.inj z
  unfold flKV deckKV at e
  have e2 := (Prod.mk.inj (List.cons.inj e).1).1
  exact absurd (Sum.inr.inj e2) (by decide +kernel)
end
/-! ### literal tuples of ints -/
def tInts : List Int → TA
  | [] => tNil
  | n :: ns => tCons (tC (.int n)) (tInts ns)
def tTups : List (List Int) → TA
  | [] => tNil
  | r :: rs => tCons (tTup (tInts r)) (tTups rs)
theorem ints_ok : ∀ {ns : List Int} {σ : L2.St} {H : Hp} {Q : List V → Hp → Prop}, Q (ns.map V.int) H → tInts ns σ H Q
  | [], _, _, _, q => q
  | n :: ns, σ, H, Q, q => ints_ok (ns := ns) (Q := fun vs H1 => Q (.int n :: vs) H1) q
theorem tups_ok {K : PySem.W.Frag} : ∀ {rs : List (List Int)} {σ : L2.St} {H : Hp} {Q : List V → Hp → Prop}, (∀ r ∈ rs, r.length ≤ 1000) → (∀ ks H', Same H H' → TL K H' ks → ks.map (·.2) = rs → Q (rf ks) H') → tTups rs σ H Q
  | [], σ, H, Q, _, q => q [] H (Same.refl H) tl_nil rfl
  | r :: rs, σ, H, Q, h, q => by
    show tInts r σ H fun xs H1 => xs.length ≤ sizeLine ∧ ∀ p, H1 p = none → tTups rs σ (upd H1 p (.tup xs)) fun vs H2 => Q (.ref p :: vs) H2
    refine ints_ok ⟨sl_1000 (by rw [List.length_map]; have := h r List.mem_cons_self; omega), fun p hp => ?_⟩
    have s1 : Same H (upd H p (.tup (r.map V.int))) := same_upd hp
    refine tups_ok (K := K) (fun x hx => h x (List.mem_cons_of_mem _ hx)) fun ks H' s2 ht e => ?_
    refine q ((p, r) :: ks) H' (s1.trans s2) (fun y hy => ?_) (by rw [List.map_cons, e])
    rcases List.mem_cons.mp hy with rfl | hy
    · exact SqT.of (s2 _ _ upd_same)
    · exact ht y hy
/-! ### tuples of ints are equal if the ints are -/
theorem eqv_all : ∀ (a b : List Int), a.length = b.length → PyData.eqvAll (a.map PyData.int) (b.map PyData.int) = decide (a = b)
  | [], [], _ => by simp [PyData.eqvAll]
  | [], _ :: _, h => by simp at h
  | _ :: _, [], h => by simp at h
  | x :: a, y :: b, h => by
    have e := eqv_all a b (by simpa using h)
    simp only [List.map_cons, PyData.eqvAll, PyData.eqv, e]
    by_cases h1 : x = y
    · subst h1
      simp
    · simp [h1]
theorem eqv_tup (a b : List Int) (h : a.length = b.length) : PyData.eqv (.tuple (a.map PyData.int)) (.tuple (b.map PyData.int)) = decide (a = b) := by
  rw [← eqv_all a b h]
  simp [PyData.eqv, h]
theorem shaped_tup (ns : List Int) : SeqAt.shaped (.tuple (ns.map PyData.int)) = true := by
  have h := shaped_ints ns
  unfold SeqAt.shaped at h ⊢
  simpa [PyData.canLay0, PyData.depth] using h
end K18

namespace K18
open PySem PySem.Spec PyProof.Rows L2
def forBody : Stmt → List Stmt
  | .For _ _ b _ _ => b
  | _ => []
abbrev lawB : List Stmt := forBody ((defBody sLaw).getD 1 (.Pass ⟨0, 0, 0, 0⟩))
abbrev lawN : List Str := ["script", "deck", "go", "rings", "floor", "label", "place", "due", "told", "j", "start", "total", "lot"]
theorem lawB_len : lawB.length = 13 := by kernel_rfl
theorem scLaw : FnScope lawN ["script"] (defScope sLaw) := ⟨rfl, rfl, rfl, by decide +kernel, rfl, by decide +kernel, by decide +kernel⟩
end K18

namespace K18
open PySem PySem.Spec PyProof.Rows L2
theorem rep1 {K : PySem.W.Frag} {H : Hp} {p0 : Addr} {r : List Int} {Q : VK} (h0 : SqT K H p0 [V.int 0]) (h1 : 1 ≤ r.length) (h2 : r.length ≤ 3) (key : ∀ q H', Same H H' → SqT K H' q ((st0 r).map V.int) → Q (.ref q) H') :
    rRepT1 K (.ref p0) (.int ((r.map V.int).length : Nat)) H Q ∨ rRepT K (.ref p0) (.int ((r.map V.int).length : Nat)) H Q := by
  rw [List.length_map]
  by_cases e : r.length = 1
  · refine .inl ⟨p0, _, rfl, by rw [e]; rfl, h0, key p0 H (Same.refl H) ?_⟩
    unfold st0
    rw [e]
    exact h0
  · refine .inr ⟨p0, _, _, rfl, rfl, h0, by simp, by omega, by omega, by decide, fun p hp => ?_⟩
    refine key p _ (same_upd hp) (SqT.of ?_)
    rw [upd_same]
    unfold st0
    rw [Int.toNat_natCast, rep_flat, List.map_replicate]
theorem ifS_gen {c : TT} {t u : TS} {D : Ends} {σ : L2.St} {H : Hp} (Pv : Hp → Prop) (h : ∀ Q' : Bool → Hp → Prop, (∀ b H', Pv H' → Q' b H') → c σ H Q') (kt : ∀ H', Pv H' → t D σ H') (ku : ∀ H', Pv H' → u D σ H') : tIfS c t u D σ H :=
  h _ fun b H' p => by
    cases b
    · exact ku H' p
    · exact kt H' p
theorem next_ifS {c : TT} {t u : TS} {D : Ends} {rt : VK} {b c' : L2.St → Hp → Prop} {σ : L2.St} {H : Hp} (h : tIfS c t u D σ H) : tNext { nx := tIfS c t u D, rt := rt, bk := b, ct := c' } σ H := h
theorem tz_len : ∀ t ∈ tabR, t.2.length ≤ 60 := by decide +kernel
theorem reps_len {r : List Int} (h : r ∈ R14) : (repsL r).length ≤ 60 := by
  rw [← tabR_keys] at h
  obtain ⟨t, ht, rfl⟩ := List.mem_map.mp h
  rw [tabR_reps t ht, List.length_map]
  exact tz_len t ht
theorem small1 {m : Nat} (h : m ≤ 60) : Small (.list (([1, (m : Int)] : List Int).map PyData.int)) := by
  have z := (sm_ok (m : Int) (List.mem_map.mpr ⟨m + 60, List.mem_range.mpr (by omega), by omega⟩)).2
  unfold smOk1 at z
  simp only [Bool.and_eq_true, decide_eq_true_eq] at z
  exact ⟨z.1, z.2.1, z.2.2⟩
def ex12 (k : Ends) (d l a : Addr) : Prop := ∀ (w2 w3 w4 w5 w6 w7 w8 w9 w10 w11 w12 : Option V) (H' : Hp), DeckAt d l H' → k.nx [some (.ref a), some (.ref d), w2, w3, w4, w5, w6, w7, w8, w9, w10, w11, w12] H'
section
variable {P : Program} {w : World} {K : PySem.W.Frag} {mg : Str → Option Value} {base : Heap} {f f1 f2 f3 f4 f5 : Addr} {fd fd1 fd2 fd3 fd4 fd5 : FuncData} {cdv : Value} {A : Around} {outer : List Env} {s0 : Shared} {H0 : Hp} {E : XK}
theorem half3 (B : Bl mg) (hA : A.guards = some []) (hr : Room 6 (A.deeper (envOfC "law" (defScope sLaw) s0.heap.objs.size f cdv)))
    (F1 : FnP K "class_sum" sClSum f1 fd1) (g1 : mg "class_sum" = some (.ref f1)) (G1 : FnOk P w K mg base CX0 6 f1 fd1 ["rings", "label", "place"] (spClSum K))
    (F2 : FnP K "classes" sClasses f2 fd2) (g2 : mg "classes" = some (.ref f2)) (G2 : FnOk P w K mg base CX0 6 f2 fd2 ["rings"] (spClasses K))
    (F3 : FnP K "_law_class" sLClass f3 fd3) (g3 : mg "_law_class" = some (.ref f3)) (G3 : FnOk P w K mg base CX0 2 f3 fd3 ["floor", "label"] (spLClass K))
    (F4 : FnP K "_law_draw" sDraw f4 fd4) (g4 : mg "_law_draw" = some (.ref f4)) (G4 : FnOk P w K mg base CX0 1 f4 fd4 ["deck", "below"] spDraw) :
    ∃ t3, PSs (cxOf CX0 P w K mg base lawN "law" (defScope sLaw) f cdv A outer s0 H0 E).nox (lawB.drop 9) t3 ∧ ∀ (k : Ends) (a d l : Addr) (y2 y7 y8 y9 y10 y11 y12 : Option V) (v u z : V) (dF : Addr) (r lb x : List Int) (H : Hp), DeckAt d l H → FlD K H dF r → TupI K H v r → TupI K H u lb → TupI K H z x → r ∈ R14 → lb ∈ placesL r → x ∈ placesL r → ex12 k d l a →
      t3 k [some (.ref a), some (.ref d), y2, some v, some (.ref dF), some u, some z, y7, y8, y9, y10, y11, y12] H := by
  have b1 : Binds K fd1 ["rings", "label", "place"] [] := F1.bindsN fun _ _ _ _ _ _ us hl => match us, hl with | [_, _, _], _ => rfl
  have b2 : Binds K fd2 ["rings"] [] := F2.bindsN fun _ _ _ _ _ _ us hl => match us, hl with | [_], _ => rfl
  have b3 : Binds K fd3 ["floor", "label"] [] := F3.bindsN fun _ _ _ _ _ _ us hl => match us, hl with | [_, _], _ => rfl
  have b4 : Binds K fd4 ["deck", "below"] [] := F4.bindsN fun _ _ _ _ _ _ us hl => match us, hl with | [_, _], _ => rfl
  have hu := hu_of hr
  have hr1 : Room 1 _ := hr.mono (by decide : 1 ≤ 6)
  have hr2 : Room 2 _ := hr.mono (by decide : 2 ≤ 6)
  have cr : CallR (Cx.nox (cxOf CX0 P w K mg base lawN "law" (defScope sLaw) f cdv A outer s0 H0 E)) (.builtin "repr") rRepr := call_repr hA hr.units
  refine ⟨_, (pss_cons (ps_set (i := 10) scLaw.nd rfl (Or.inl rfl) (pe_op (op_repT1.or op_repT) (pe_tup (pa_cons pe_int pa_nil)) (pe_callB call_len_seq (by rfl) (B "len" (by decide +kernel)) PySem.boot_len (pa_cons (pv 3) pa_nil))))
    (pss_cons (ps_set (i := 8) scLaw.nd rfl (Or.inl rfl) (pe_lst (pa_cons (pe_call G1 hr (by rfl) g1 F1.kp b1 .nil pass0 (pa_cons (pv 3) (pa_cons (pv 10) (pa_cons (pv 6) pa_nil)))) (pa_cons (pe_call G1 hr (by rfl) g1 F1.kp b1 .nil pass0 (pa_cons (pv 3) (pa_cons (pv 5) (pa_cons (pv 10) pa_nil)))) pa_nil))))
    (pss_cons (ps_if (pt_cmpR op_ne (pe_callB cr (by rfl) (B "repr" (by decide +kernel)) (by decide +kernel) (pa_cons (pv 8) pa_nil)) (pe_callB cr (by rfl) (B "repr" (by decide +kernel)) (by decide +kernel) (pa_cons (pe_lst (pa_cons pe_int (pa_cons (pe_callB call_len_seq (by rfl) (B "len" (by decide +kernel)) PySem.boot_len (pa_cons (pe_call G3 hr2 (by rfl) g3 F3.kp b3 .nil pass0 (pa_cons (pv 4) (pa_cons (pv 5) pa_nil))) pa_nil)) pa_nil))) pa_nil)) (nomark _)) (pss_one (ps_ret pe_bl)) pss_nil)
    (pss_one (ps_if (pw_or (pt_cmpR op_lt (pe_dget hu (pv 4) pe_str (fun _ _ => rfl)) pe_int (nomark _)) (pw_or1 (pt_cmpR op_eq (pe_call G4 hr1 (by rfl) g4 F4.kp b4 .nil pass0 (pa_cons (pv 1) (pa_cons pe_int pa_nil))) pe_int (nomark _)))).pt
      (pss_cons (ps_set (i := 11) scLaw.nd rfl (Or.inl rfl) (pe_callB (cr_sum rfl) (by rfl) (B "sum" (by decide +kernel)) (by decide +kernel) (pa_cons
        (pe_lc (own := [("lot", 12)]) (g := gName 12) (tt := tYes) (te := tCall (spClSum K) [] E0 (tCons (tVar 3) (tCons (tOp (rIxT K) (tVar 12) (tC (.int 0))) (tCons (tVar 6) tNil)))) rfl scLaw.nd
          (pi_tup (pe_call G2 hr (by rfl) g2 F2.kp b2 .nil pass0 (pa_cons (pv 3) pa_nil))) (blkOk_by (own := [("lot", 12)]) (N := lawN) (sc := defScope sLaw) (by decide +kernel))
          (fun _ _ _ _ _ => pg_name (i := 12) scLaw.nd rfl (Or.inl rfl))
          (fun _ _ _ _ _ => pts_nil)
          (fun _ _ _ _ _ => pe_call G1 hr (by rfl) g1 F1.kp b1 .nil pass0 (pa_cons (pv 3) (pa_cons (pe_ix ix_tup (pv 12) pe_int (fun _ _ => rfl)) (pa_cons (pv 6) pa_nil))))) pa_nil)))
      (pss_one (ps_if (pt_cmpR op_ne (pv 11) (pe_ifExp (pt_cmpR (op_eqD hr.units) (pv 6) (pv 10) (nomark _)) (pe_dget hu (pv 4) pe_str (fun _ _ => rfl)) pe_int) (nomark _)) (pss_one (ps_ret pe_bl)) pss_nil)))
      pss_nil))))), fun k a d l y2 y7 y8 y9 y10 y11 y12 v u z dF r lb x H D hF hv hu' hz h14 hl hx kx => ?_⟩
  obtain ⟨av, rfl, ha⟩ := hv
  obtain ⟨fa, fp, hf1, hf2, hf3⟩ := hF
  have hF : FlD K H dF r := ⟨fa, fp, hf1, hf2, hf3⟩
  have hn := r14_len r h14
  refine ⟨by show 1 ≤ sizeLine; decide, fun p0 hp0 => ?_⟩
  have s1 : Same H (upd H p0 (.tup [.int 0])) := same_upd hp0
  refine ⟨_, rfl, av, _, rfl, Or.inr (s1.tup ha), ?_⟩
  refine rep1 (SqT.of upd_same) hn.1 hn.2 fun q H1 s2 hq => ?_
  have s12 := s1.trans s2
  refine ⟨_, rfl, _, rfl, _, rfl, _, _, _, r, st0 r, x, rfl, ⟨av, rfl, s12.tup ha⟩, ⟨q, rfl, hq⟩, s12.tupI hz, h14, st0_in r h14, hx, fun H2 s3 => ?_⟩
  have s13 := s12.trans s3
  refine ⟨_, rfl, _, rfl, _, rfl, _, _, _, r, lb, st0 r, rfl, ⟨av, rfl, s13.tup ha⟩, s13.tupI hu', ⟨q, rfl, s3.tup hq⟩, h14, hl, st0_in r h14, fun H3 s4 => ?_⟩
  have s14 := s13.trans s4
  refine ⟨by show 2 ≤ sizeLine; decide, fun pt hpt => ?_⟩
  have e1 : csV r (st0 r) x = 1 := by rw [cs_due h14 (st0_in r h14) hx, due_st1 h14 hx]
  have e2 : csV r lb (st0 r) = ((canL r lb).length : Nat) := by rw [cs_due h14 hl (st0_in r h14), due_st2 h14 hl]
  rw [e1, e2]
  have hm := can_len (l := lb) h14
  have sp := same_new (o := .lst [.int 1, .int ((canL r lb).length : Nat)]) s14 hpt
  generalize hH4 : upd H3 pt (.lst [.int 1, .int ((canL r lb).length : Nat)]) = H4 at sp
  have h4 : H4 pt = some (.lst (([1, (((canL r lb).length : Nat) : Int)] : List Int).map V.int)) := by rw [← hH4, upd_same]; rfl
  have hq4 : SqT K H4 q ((st0 r).map V.int) := by
    rw [← hH4]
    exact (same_upd hpt).tup (s4.tup (s3.tup hq))
  refine ⟨_, rfl, pt, _, rfl, h4, small1 hm, ?_⟩
  refine ⟨_, rfl, _, rfl, dF, u, r, lb, rfl, sp.fld hF, sp.tupI hu', h14, hl, fun t vs H5 s5 ht hvl => ?_⟩
  refine ⟨t, vs, rfl, Or.inr ht, by show 2 ≤ sizeLine; decide, fun pd hpd => ?_⟩
  have sd := same_new (o := .lst [.int 1, .int (vs.length : Nat)]) s5 hpd
  rw [hvl] at sd ⊢
  refine ⟨pd, [1, (((canL r lb).length : Nat) : Int)], rfl, upd_same, small1 hm, rfl, _, rfl, ?_⟩
  refine ite2 (fun c => absurd c (by simp)) fun _ => ?_
  have s6 := sp.trans sd
  generalize hH6 : upd H5 pd (.lst [.int 1, .int ((canL r lb).length : Nat)]) = H6 at sd s6
  have hq6 : SqT K H6 q ((st0 r).map V.int) := sd.tup hq4
  refine next_ifS ?_
  refine ifS_gen (D := k) (fun H' => DeckAt d l H' ∧ FlD K H' dF r ∧ SqT K H' av (r.map V.int) ∧ TupI K H' z x ∧ SqT K H' q ((st0 r).map V.int)) (fun Q' hQ => ?_) (fun H7 h7 => ?_) (fun H7 h7 => ?_)
  · have h6 : DeckAt d l H6 ∧ FlD K H6 dF r ∧ SqT K H6 av (r.map V.int) ∧ TupI K H6 z x ∧ SqT K H6 q ((st0 r).map V.int) := ⟨s6.deck D, s6.fld hF, s6.tup ha, s6.tupI hz, hq6⟩
    refine ⟨_, rfl, dF, _, rfl, fl_n (s6 _ _ hf1), _, _, rfl, rfl, _, rfl, ?_⟩
    refine ite2 (fun _ => hQ _ _ h6) fun _ => ?_
    refine ⟨_, rfl, d, l, 8, rfl, h6.1, by decide, by decide, fun n H7 _ _ D7 k7 => ⟨rfl, _, rfl, hQ _ _ ⟨D7, k7.fld h6.1 h14 h6.2.1, k7.sqt h6.1 h6.2.2.1, k7.tupI h6.1 h6.2.2.2.1, k7.sqt h6.1 h6.2.2.2.2⟩⟩⟩
  · obtain ⟨D7, hF7, ha7, hz7, hq7⟩ := h7
    refine ⟨_, rfl, _, r, rfl, ⟨av, rfl, ha7⟩, h14, fun t vs H8 s8 ht gd => ?_⟩
    refine ⟨t, rfl, ⟨_, ht⟩, fun Dl hDl => ?_⟩
    have ln := reps_len h14
    refine lc_tup (K := K) (a := t) (xs := vs) (fun i H9 => Same H8 H9 ∧ H9 Dl = some (.lst (((((repsL r).take i).map fun l => dueL r (ordL r) l x) : List Int).map V.int))) ⟨same_upd hDl, by rw [upd_same]; rfl⟩ (fun i H9 _ ⟨s9, _⟩ => s9.tup ht) ?_ ?_
    · rintro i y H9 hi ⟨s9, h9⟩
      have il : i < (repsL r).length := by rw [← gd.1]; exact ltL hi
      have hl' := List.getElem?_eq_getElem il
      generalize (repsL r)[i] = lo at hl'
      obtain ⟨qa, ks, rfl, g1', g2', g3', g4'⟩ := gd.2 i y lo hi hl'
      have hlo := reps_in h14 lo (List.mem_of_getElem? hl')
      obtain ⟨k0, ks, rfl⟩ := List.exists_cons_of_ne_nil g3'
      have hk0 := g4' k0.2 (List.mem_map_of_mem List.mem_cons_self)
      have s89 := s8.trans s9
      refine ⟨rfl, _, rfl, _, rfl, qa, _, ((0 : Nat) : Int), V.ref k0.1, rfl, rfl, s9.tup g1', atI_nat (j := 0) rfl, _, rfl, _, _, _, r, k0.2, x, rfl, ⟨av, rfl, s89.tup ha7⟩, ⟨k0.1, rfl, s9.tup (g2' k0 List.mem_cons_self)⟩, s89.tupI hz7, h14, can_in hk0, hx, fun H10 s10 => ?_⟩
      refine ⟨_, s10 _ _ h9, sl_lt (by rw [List.length_map, List.length_map, List.length_take]; omega), same_at (s9.trans s10) hDl, ?_⟩
      rw [upd_same, takeS hl', List.map_append, List.map_append, cs_due h14 (can_in hk0) hx, due_kin h14 hlo hk0 hx]
      rfl
    · rintro H9 ⟨s9, h9⟩
      have el : (repsL r).take vs.length = repsL r := List.take_of_length_le (by rw [gd.1]; exact Nat.le_refl _)
      rw [el] at h9
      refine ⟨Dl, _, rfl, SqL.of h9, ?_⟩
      rw [sum_reps h14 hx]
      have s89 := s8.trans s9
      obtain ⟨xz, rfl, hxz⟩ := hz7
      refine ⟨_, rfl, _, rfl, _, rfl, _, _, .tup (s89.tup hxz) (dp_ints x), .tup (s89.tup hq7) (dp_ints (st0 r)), shaped_tup x, shaped_tup (st0 r), _, rfl, ?_⟩
      have exl : x.length = (st0 r).length := by
        unfold st0
        rw [List.length_replicate]
        exact r14_whole h14 hx
      rw [eqv_tup _ _ exl]
      refine ite2 (fun c => ?_) fun c => ?_
      · have cx : x = st0 r := of_decide_eq_true c
        rw [if_pos cx]
        obtain ⟨fa', fp', hf1', _, _⟩ := hF7
        refine ⟨_, rfl, dF, _, rfl, fl_n (s89 _ _ hf1'), rfl, _, rfl, ?_⟩
        refine ite2 (fun c => absurd c (by simp)) fun _ => ?_
        exact kx _ _ _ _ _ _ _ _ _ _ _ _ (s89.deck D7)
      · have cx : ¬ x = st0 r := fun z => c (decide_eq_true z)
        rw [if_neg cx]
        refine ⟨rfl, _, rfl, ?_⟩
        refine ite2 (fun c => absurd c (by simp)) fun _ => ?_
        exact kx _ _ _ _ _ _ _ _ _ _ _ _ (s89.deck D7)
  · exact kx _ _ _ _ _ _ _ _ _ _ _ _ h7.1
end
end K18

namespace K18
open PySem PySem.Spec PyProof.Rows L2
theorem small4 {i : Int} (h1 : -60 ≤ i) (h2 : i ≤ 60) : Small (.list (([i, i, i, i] : List Int).map PyData.int)) := by
  have z := (sm_ok i (List.mem_map.mpr ⟨(i + 60).toNat, List.mem_range.mpr (by omega), by omega⟩)).1
  unfold smOk at z
  simp only [Bool.and_eq_true, decide_eq_true_eq] at z
  exact ⟨z.1, z.2.1, z.2.2⟩
theorem unitsR_bd {r : List Int} (h : r ∈ R14) : ∀ j ∈ unitsL (ordL r), 1 ≤ j ∧ j ≤ 60 := by
  intro j hj
  have eb := e12_bd _ (e12_in r h)
  unfold unitsL at hj
  obtain ⟨h1, _⟩ := List.mem_filter.mp hj
  unfold rgL at h1
  obtain ⟨i, hi, rfl⟩ := List.mem_map.mp h1
  have := List.mem_range.mp hi
  omega
theorem unitsR_len {r : List Int} (h : r ∈ R14) : 1 ≤ (unitsL (ordL r)).length ∧ (unitsL (ordL r)).length ≤ 60 := by
  have eb := e12_bd _ (e12_in r h)
  constructor
  · refine List.length_pos_iff.mpr (List.ne_nil_of_mem (a := 1) ?_)
    unfold unitsL
    refine List.mem_filter.mpr ⟨List.mem_map.mpr ⟨0, List.mem_range.mpr (by omega), rfl⟩, decide_eq_true ?_⟩
    unfold gcdI
    simp
  · unfold unitsL
    refine Nat.le_trans (List.length_filter_le _ _) ?_
    rw [rgL_len]
    omega
def uniT (e : Int) (i : Nat) : List Int := (rgL 1 i).filter fun j => decide (gcdI j e = 1)
section
variable {P : Program} {w : World} {K : PySem.W.Frag} {mg : Str → Option Value} {base : Heap} {f f1 f2 f3 f4 f5 : Addr} {fd fd1 fd2 fd3 fd4 fd5 : FuncData} {cdv : Value} {A : Around} {outer : List Env} {s0 : Shared} {H0 : Hp} {E : XK}
def Tail (K : PySem.W.Frag) (t3 : TS) : Prop := ∀ (k : Ends) (a d l : Addr) (y2 y7 y8 y9 y10 y11 y12 : Option V) (v u z : V) (dF : Addr) (r lb x : List Int) (H : Hp), DeckAt d l H → FlD K H dF r → TupI K H v r → TupI K H u lb → TupI K H z x → r ∈ R14 → lb ∈ placesL r → x ∈ placesL r → ex12 k d l a →
      t3 k [some (.ref a), some (.ref d), y2, some v, some (.ref dF), some u, some z, y7, y8, y9, y10, y11, y12] H
theorem half2 (B : Bl mg) (hA : A.guards = some []) (hr : Room 6 (A.deeper (envOfC "law" (defScope sLaw) s0.heap.objs.size f cdv))) {t3 : TS}
    (h3 : PSs (cxOf CX0 P w K mg base lawN "law" (defScope sLaw) f cdv A outer s0 H0 E).nox (lawB.drop 9) t3) (k3 : Tail K t3)
    (F1 : FnP K "class_sum" sClSum f1 fd1) (g1 : mg "class_sum" = some (.ref f1)) (G1 : FnOk P w K mg base CX0 6 f1 fd1 ["rings", "label", "place"] (spClSum K))
    (F2 : FnP K "_law_class_sum" sLSum f2 fd2) (g2 : mg "_law_class_sum" = some (.ref f2)) (G2 : FnOk P w K mg base CX0 2 f2 fd2 ["floor", "label", "place"] (spLSum K))
    (F3 : FnP K "_law_times" sTimes f3 fd3) (g3 : mg "_law_times" = some (.ref f3)) (G3 : FnOk P w K mg base CX0 1 f3 fd3 ["floor", "place", "j"] (spTimes K))
    (F4 : FnP K "_law_pick" sPick f4 fd4) (g4 : mg "_law_pick" = some (.ref f4)) (G4 : FnOk P w K mg base CX0 2 f4 fd4 ["deck", "some"] (spPick K))
    (F5 : FnP K "_law_common" sCommon f5 fd5) (g5 : mg "_law_common" = some (.ref f5)) (G5 : FnOk P w K mg base CX0 1 f5 fd5 ["one", "other"] spCommon) :
    ∃ t2, PSs (cxOf CX0 P w K mg base lawN "law" (defScope sLaw) f cdv A outer s0 H0 E).nox (lawB.drop 4) t2 ∧ Tail K t2 := by
  have b1 : Binds K fd1 ["rings", "label", "place"] [] := F1.bindsN fun _ _ _ _ _ _ us hl => match us, hl with | [_, _, _], _ => rfl
  have b2 : Binds K fd2 ["floor", "label", "place"] [] := F2.bindsN fun _ _ _ _ _ _ us hl => match us, hl with | [_, _, _], _ => rfl
  have b3 : Binds K fd3 ["floor", "place", "j"] [] := F3.bindsN fun _ _ _ _ _ _ us hl => match us, hl with | [_, _, _], _ => rfl
  have b4 : Binds K fd4 ["deck", "some"] [] := F4.bindsN fun _ _ _ _ _ _ us hl => match us, hl with | [_, _], _ => rfl
  have b5 : Binds K fd5 ["one", "other"] [] := F5.bindsN fun _ _ _ _ _ _ us hl => match us, hl with | [_, _], _ => rfl
  have hu := hu_of hr
  have hr1 : Room 1 _ := hr.mono (by decide : 1 ≤ 6)
  have hr2 : Room 2 _ := hr.mono (by decide : 2 ≤ 6)
  have cr : CallR (Cx.nox (cxOf CX0 P w K mg base lawN "law" (defScope sLaw) f cdv A outer s0 H0 E)) (.builtin "repr") rRepr := call_repr hA hr.units
  refine ⟨_, (pss_cons (ps_set (i := 7) scLaw.nd rfl (Or.inl rfl) (pe_call G2 hr2 (by rfl) g2 F2.kp b2 .nil pass0 (pa_cons (pv 4) (pa_cons (pv 5) (pa_cons (pv 6) pa_nil)))))
    (pss_cons (ps_set (i := 8) scLaw.nd rfl (Or.inl rfl) (pe_lst (pa_cons (pe_call G1 hr (by rfl) g1 F1.kp b1 .nil pass0 (pa_cons (pv 3) (pa_cons (pv 5) (pa_cons (pv 6) pa_nil)))) (pa_cons (pe_callK0 G1 hr (by rfl) g1 F1.kp (clS_kb F1) pass0 (pk_cons (pv 6) (pk_cons (pv 5) (pk_cons (pv 3) pk_nil)))) pa_nil))))
    (pss_cons (ps_set (i := 9) scLaw.nd rfl (Or.inl rfl) (pe_call G4 hr2 (by rfl) g4 F4.kp b4 .nil pass0 (pa_cons (pv 1) (pa_cons
        (pe_lc (own := [("j", 9)]) (g := gName 9) (tt := tTest (tOp rEq (tCall spCommon [] E0 (tCons (tVar 9) (tCons (tDGet (tVar 4) (tC (.str "e"))) tNil))) (tC (.int 1)))) (te := tVar 9) rfl scLaw.nd
          (pi_range2 rfl (B "range" (by decide +kernel)) (pa_cons pe_int (pa_cons (pe_op op_add (pe_dget hu (pv 4) pe_str (fun _ _ => rfl)) pe_int) pa_nil))) (blkOk_by (own := [("j", 9)]) (N := lawN) (sc := defScope sLaw) (by decide +kernel))
          (fun _ _ _ _ _ => pg_name (i := 9) scLaw.nd rfl (Or.inl rfl))
          (fun _ _ _ _ _ => pts_one (pt_cmpR op_eq (pe_call G5 hr1 (by rfl) g5 F5.kp b5 .nil pass0 (pa_cons (pv 9) (pa_cons (pe_dget hu (pv 4) pe_str (fun _ _ => rfl)) pa_nil))) pe_int (nomark _)))
          (fun _ _ _ _ _ => pv 9)) pa_nil))))
    (pss_cons (ps_set (i := 8) scLaw.nd rfl (Or.inl rfl) (pe_op op_cat (pv 8) (pe_lst (pa_cons
        (pe_call G1 hr (by rfl) g1 F1.kp b1 .nil pass0 (pa_cons (pv 3) (pa_cons (pe_call G3 hr1 (by rfl) g3 F3.kp b3 .nil pass0 (pa_cons (pv 4) (pa_cons (pv 5) (pa_cons (pv 9) pa_nil)))) (pa_cons (pv 6) pa_nil))))
        (pa_cons (pe_call G1 hr (by rfl) g1 F1.kp b1 .nil pass0 (pa_cons (pv 3) (pa_cons (pv 5) (pa_cons (pe_call G3 hr1 (by rfl) g3 F3.kp b3 .nil pass0 (pa_cons (pv 4) (pa_cons (pv 6) (pa_cons (pv 9) pa_nil)))) pa_nil)))) pa_nil)))))
    (pss_cons (ps_if (pt_cmpR op_ne (pe_callB cr (by rfl) (B "repr" (by decide +kernel)) (by decide +kernel) (pa_cons (pv 8) pa_nil)) (pe_callB cr (by rfl) (B "repr" (by decide +kernel)) (by decide +kernel) (pa_cons (pe_op op_rep (pe_lst (pa_cons (pv 7) pa_nil)) pe_int) pa_nil)) (nomark _)) (pss_one (ps_ret pe_bl)) pss_nil) h3))))), fun k a d l y2 y7 y8 y9 y10 y11 y12 v u z dF r lb x H D hF hv hu' hz h14 hl hx kx => ?_⟩
  have eb := e12_bd _ (e12_in r h14)
  obtain ⟨fa, fp, hf1, hf2, hf3⟩ := hF
  have hF : FlD K H dF r := ⟨fa, fp, hf1, hf2, hf3⟩
  refine ⟨_, rfl, _, rfl, _, rfl, dF, u, z, r, lb, x, rfl, hF, hu', hz, h14, hl, hx, fun H1 s1 => ?_⟩
  refine ⟨_, rfl, _, rfl, _, rfl, _, _, _, r, lb, x, rfl, s1.tupI hv, s1.tupI hu', s1.tupI hz, h14, hl, hx, fun H2 s2 => ?_⟩
  have s12 := s1.trans s2
  refine ⟨_, rfl, _, rfl, _, rfl, v, u, z, r, lb, x, rfl, s12.tupI hv, s12.tupI hu', s12.tupI hz, h14, hl, hx, fun H3 s3 => ?_⟩
  have s13 := s12.trans s3
  refine ⟨by show 2 ≤ sizeLine; decide, fun pt hpt => ?_⟩
  rw [cs_due h14 hl hx]
  have db := due_bd h14 hl hx
  generalize hDD : dueL r (ordL r) lb x = D0 at db
  have sp := same_new (o := .lst [.int D0, .int D0]) s13 hpt
  generalize hH4 : upd H3 pt (.lst [.int D0, .int D0]) = H4 at sp
  have h4 : H4 pt = some (.lst [.int D0, .int D0]) := by rw [← hH4, upd_same]
  have npt : H pt = none := s13.free hpt
  have ul := unitsR_len h14
  refine ⟨_, rfl, _, rfl, dF, _, rfl, fl_e (sp _ _ hf1), _, _, rfl, rfl, 1, ordL r + 1, rfl, ⟨by omega, by omega, by omega, by omega⟩, fun Dl hDl => ?_⟩
  have en : (ordL r + 1 - 1).toNat = (ordL r).toNat := by
    congr 1
    omega
  rw [en]
  have nDl : H4 Dl = none := hDl
  refine lc_range (lo := 1) (n := (ordL r).toNat) (fun i H5 => Same H4 H5 ∧ H5 Dl = some (.lst ((uniT (ordL r) i).map V.int))) ⟨same_upd hDl, by rw [upd_same]; rfl⟩ ?_ ?_
  · rintro i H5 hi ⟨s5, h5⟩
    refine ⟨rfl, _, rfl, _, rfl, dF, _, rfl, fl_e (s5 _ _ (sp _ _ hf1)), _, _, rfl, rfl, _, rfl, ?_⟩
    refine ite2 (fun cc => ?_) (fun cc => ?_)
    · have c1 : gcdI (1 + (i : Int)) (ordL r) = 1 := eqI cc
      refine ⟨_, rfl, _, h5, sl_lt ?_, same_at s5 nDl, ?_⟩
      · rw [List.length_map]
        unfold uniT
        exact Nat.le_trans (List.length_filter_le _ _) (by rw [rgL_len]; omega)
      · have er : uniT (ordL r) (i + 1) = uniT (ordL r) i ++ [1 + (i : Int)] := by
          unfold uniT
          rw [rgF_succ, if_pos (decide_eq_true c1)]
        rw [upd_same, er, List.map_append]
        rfl
    · have c1 : ¬ gcdI (1 + (i : Int)) (ordL r) = 1 := neI cc
      have er : uniT (ordL r) (i + 1) = uniT (ordL r) i := by
        unfold uniT
        rw [rgF_succ, if_neg (by simpa using c1)]
      exact ⟨s5, by rw [er]; exact h5⟩
  · rintro H5 ⟨s5, h5⟩
    have nel : H5 Dl = some (.lst ((unitsL (ordL r)).map V.int)) := h5
    have D5 := (sp.trans s5).deck D
    have nl : Dl ≠ l := by
      obtain ⟨_, ns, h2⟩ := deck_ref (sp.deck D)
      rintro rfl
      rw [h2] at nDl
      cases nDl
    refine ⟨d, l, Dl, _, rfl, D5, nel, nl, by rw [List.length_map]; exact ul.1, by rw [List.length_map]; omega, fun vj H6 hvj D6 k6 => ?_⟩
    obtain ⟨j, hj, rfl⟩ := List.mem_map.mp hvj
    have jb := unitsR_bd h14 j hj
    have s15 := sp.trans s5
    obtain ⟨⟨dm, dk, hd1⟩, dns, hd2⟩ := deck_ref (s15.deck D)
    have h6 : H6 pt = some (.lst [.int D0, .int D0]) := k6 _ _ (s5 _ _ h4) (ne_of (s5 _ _ h4) hd1 (by intro z; cases z)) (ne_of_none (deck_ref D).2.choose_spec npt).symm
    have hF6 := k6.fld D5 h14 (s15.fld hF)
    have hv6 := k6.tupI D5 (s15.tupI hv)
    have hu6 := k6.tupI D5 (s15.tupI hu')
    have hz6 := k6.tupI D5 (s15.tupI hz)
    refine ⟨_, rfl, _, rfl, _, rfl, _, rfl, _, rfl, dF, u, r, lb, j, rfl, hF6, hu6, h14, r14_whole h14 hl, by omega, by omega, fun t1 H7 s7 nt1 ht1 => ?_⟩
    have rl := rep_can (l := lb) h14 hj
    refine ⟨_, rfl, _, _, _, r, repL r lb j, x, rfl, s7.tupI hv6, ⟨t1, rfl, SqT.of ht1⟩, s7.tupI hz6, h14, repL_in h14, hx, fun H8 s8 => ?_⟩
    have s68 := s7.trans s8
    refine ⟨_, rfl, _, rfl, _, rfl, _, rfl, _, rfl, dF, z, r, x, j, rfl, s68.fld hF6, s68.tupI hz6, h14, r14_whole h14 hx, by omega, by omega, fun t2 H9 s9 nt2 ht2 => ?_⟩
    have s69 := s68.trans s9
    refine ⟨_, _, _, r, lb, repL r x j, rfl, s69.tupI hv6, s69.tupI hu6, ⟨t2, rfl, SqT.of ht2⟩, h14, hl, repL_in h14, fun H10 s10 => ?_⟩
    have s610 := s69.trans s10
    rw [cs_due h14 (repL_in h14) hx, cs_due h14 hl (repL_in h14), due_kin h14 hl rl hx, due_place h14 hl hx hj, hDD]
    refine ⟨by show 2 ≤ sizeLine; decide, fun p2 hp2 => ?_⟩
    have sq := same_new (o := .lst [.int D0, .int D0]) s610 hp2
    refine ⟨_, _, _, _, rfl, rfl, sq _ _ h6, upd_same, by show 4 ≤ sizeLine; decide, fun p3 hp3 => ?_⟩
    have sr := same_new (o := .lst ([V.int D0, V.int D0] ++ [V.int D0, V.int D0])) sq hp3
    generalize hH11 : upd (upd H10 p2 (.lst [.int D0, .int D0])) p3 (.lst ([V.int D0, V.int D0] ++ [V.int D0, V.int D0])) = H11 at sr
    have h11 : H11 p3 = some (.lst (([D0, D0, D0, D0] : List Int).map V.int)) := by rw [← hH11, upd_same]; rfl
    refine ⟨_, rfl, p3, _, rfl, h11, small4 db.1 db.2, ?_⟩
    refine ⟨_, rfl, by show 1 ≤ sizeLine; decide, fun p4 hp4 => ?_⟩
    have st := same_new (o := .lst [.int D0]) sr hp4
    refine ⟨p4, 4, _, rfl, rfl, upd_same, by decide, by decide, by show 4 ≤ sizeLine; decide, fun p5 hp5 => ?_⟩
    have su := same_new (o := .lst (List.replicate (Int.toNat 4) [V.int D0]).flatten) st hp5
    refine ⟨p5, [D0, D0, D0, D0], rfl, upd_same, small4 db.1 db.2, rfl, _, rfl, ?_⟩
    refine ite2 (fun c => absurd c (by simp)) fun _ => ?_
    exact k3 _ _ _ _ _ _ _ _ _ _ _ _ _ _ _ _ _ _ _ (su.deck D6) (su.fld hF6) (su.tupI hv6) (su.tupI hu6) (su.tupI hz6) h14 hl hx kx
end
end K18

namespace K18
open PySem PySem.Spec PyProof.Rows L2
theorem r14_small : ∀ r ∈ R14, r.length ≤ 1000 := by decide
theorem tups14 : (tCons (tTup (tCons (tC (.int 6)) tNil)) (tCons (tTup (tCons (tC (.int 12)) tNil)) (tCons (tTup (tCons (tC (.int 2)) (tCons (tC (.int 4)) tNil))) (tCons (tTup (tCons (tC (.int 7)) tNil)) (tCons (tTup (tCons (tC (.int 60)) tNil)) (tCons (tTup (tCons (tC (.int 3)) (tCons (tC (.int 3)) tNil))) (tCons (tTup (tCons (tC (.int 2)) (tCons (tC (.int 2)) (tCons (tC (.int 2)) tNil)))) (tCons (tTup (tCons (tC (.int 30)) (tCons (tC (.int 2)) tNil))) (tCons (tTup (tCons (tC (.int 36)) tNil)) (tCons (tTup (tCons (tC (.int 5)) (tCons (tC (.int 5)) tNil))) (tCons (tTup (tCons (tC (.int 2)) (tCons (tC (.int 3)) (tCons (tC (.int 5)) tNil)))) (tCons (tTup (tCons (tC (.int 16)) tNil)) (tCons (tTup (tCons (tC (.int 59)) tNil)) (tCons (tTup (tCons (tC (.int 4)) (tCons (tC (.int 15)) tNil))) tNil)))))))))))))) = tTups R14 := rfl
theorem lst_tups {K : PySem.W.Frag} {t : TA} {σ : L2.St} {H : Hp} {Q : VK} (e : t = tTups R14) (q : ∀ p ks H', Same H H' → TL K H' ks → ks.map (·.2) = R14 → H p = none → H' p = some (.lst (rf ks)) → Q (.ref p) H') : tLst t σ H Q := by
  subst e
  refine tups_ok (K := K) (rs := R14) (σ := σ) (H := H) (Q := fun xs H1 => xs.length ≤ sizeLine ∧ ∀ p, H1 p = none → Q (.ref p) (upd H1 p (.lst xs))) r14_small fun ks H1 s1 tl e => ⟨?_, fun p hp => ?_⟩
  · have := congrArg List.length e
    rw [List.length_map] at this
    rw [List.length_map, this]
    decide
  · exact q p ks _ (same_new s1 hp) ((same_upd hp).tl tl) e (s1.free hp) upd_same
section
variable {P : Program} {w : World} {K : PySem.W.Frag} {mg : Str → Option Value} {base : Heap} {f f1 f2 f3 f4 f5 : Addr} {fd fd1 fd2 fd3 fd4 fd5 : FuncData} {cdv : Value} {A : Around} {outer : List Env} {s0 : Shared} {H0 : Hp} {E : XK}
def Whole (K : PySem.W.Frag) (t1 : TS) : Prop := ∀ (k : Ends) (a d l : Addr) (y2 y3 y4 y5 y6 y7 y8 y9 y10 y11 y12 : Option V) (H : Hp), DeckAt d l H → ex12 k d l a → t1 k [some (.ref a), some (.ref d), y2, y3, y4, y5, y6, y7, y8, y9, y10, y11, y12] H
theorem half1 (B : Bl mg) (hr : Room 6 (A.deeper (envOfC "law" (defScope sLaw) s0.heap.objs.size f cdv))) {t2 : TS}
    (h2 : PSs (cxOf CX0 P w K mg base lawN "law" (defScope sLaw) f cdv A outer s0 H0 E).nox (lawB.drop 4) t2) (k2 : Tail K t2)
    (F1 : FnP K "_law_floor" sLFloor f1 fd1) (g1 : mg "_law_floor" = some (.ref f1)) (G1 : FnOk P w K mg base CX0 2 f1 fd1 ["rings"] (spLFloor K))
    (F2 : FnP K "_law_draw" sDraw f2 fd2) (g2 : mg "_law_draw" = some (.ref f2)) (G2 : FnOk P w K mg base CX0 1 f2 fd2 ["deck", "below"] spDraw)
    (F3 : FnP K "_law_times" sTimes f3 fd3) (g3 : mg "_law_times" = some (.ref f3)) (G3 : FnOk P w K mg base CX0 1 f3 fd3 ["floor", "place", "j"] (spTimes K))
    (F4 : FnP K "_law_pick" sPick f4 fd4) (g4 : mg "_law_pick" = some (.ref f4)) (G4 : FnOk P w K mg base CX0 2 f4 fd4 ["deck", "some"] (spPick K)) :
    ∃ t1, PSs (cxOf CX0 P w K mg base lawN "law" (defScope sLaw) f cdv A outer s0 H0 E).nox lawB t1 ∧ Whole K t1 := by
  have b1 : Binds K fd1 ["rings"] [] := F1.bindsN fun _ _ _ _ _ _ us hl => match us, hl with | [_], _ => rfl
  have b2 : Binds K fd2 ["deck", "below"] [] := F2.bindsN fun _ _ _ _ _ _ us hl => match us, hl with | [_, _], _ => rfl
  have b3 : Binds K fd3 ["floor", "place", "j"] [] := F3.bindsN fun _ _ _ _ _ _ us hl => match us, hl with | [_, _, _], _ => rfl
  have b4 : Binds K fd4 ["deck", "some"] [] := F4.bindsN fun _ _ _ _ _ _ us hl => match us, hl with | [_, _], _ => rfl
  have hu := hu_of hr
  have hr1 : Room 1 _ := hr.mono (by decide : 1 ≤ 6)
  have hr2 : Room 2 _ := hr.mono (by decide : 2 ≤ 6)
  refine ⟨_, (pss_cons (ps_set (i := 3) scLaw.nd rfl (Or.inr rfl) (pe_call G4 hr2 (by rfl) g4 F4.kp b4 .nil pass0 (pa_cons (pv 1) (pa_cons (pe_lst (pa_cons (pe_tup (pa_cons pe_int pa_nil)) (pa_cons (pe_tup (pa_cons pe_int pa_nil)) (pa_cons (pe_tup (pa_cons pe_int (pa_cons pe_int pa_nil))) (pa_cons (pe_tup (pa_cons pe_int pa_nil)) (pa_cons (pe_tup (pa_cons pe_int pa_nil)) (pa_cons (pe_tup (pa_cons pe_int (pa_cons pe_int pa_nil))) (pa_cons (pe_tup (pa_cons pe_int (pa_cons pe_int (pa_cons pe_int pa_nil)))) (pa_cons (pe_tup (pa_cons pe_int (pa_cons pe_int pa_nil))) (pa_cons (pe_tup (pa_cons pe_int pa_nil)) (pa_cons (pe_tup (pa_cons pe_int (pa_cons pe_int pa_nil))) (pa_cons (pe_tup (pa_cons pe_int (pa_cons pe_int (pa_cons pe_int pa_nil)))) (pa_cons (pe_tup (pa_cons pe_int pa_nil)) (pa_cons (pe_tup (pa_cons pe_int pa_nil)) (pa_cons (pe_tup (pa_cons pe_int (pa_cons pe_int pa_nil))) pa_nil))))))))))))))) pa_nil))))
    (pss_cons (ps_set (i := 4) scLaw.nd rfl (Or.inr rfl) (pe_call G1 hr2 (by rfl) g1 F1.kp b1 .nil pass0 (pa_cons (pv 3) pa_nil)))
    (pss_cons (ps_asg (pe_tup (pa_cons (pe_call G4 hr2 (by rfl) g4 F4.kp b4 .nil pass0 (pa_cons (pv 1) (pa_cons (pe_dget hu (pv 4) pe_str (fun _ _ => rfl)) pa_nil))) (pa_cons (pe_call G4 hr2 (by rfl) g4 F4.kp b4 .nil pass0 (pa_cons (pv 1) (pa_cons (pe_dget hu (pv 4) pe_str (fun _ _ => rfl)) pa_nil))) pa_nil))) (pg_tup rfl (pgs_cons (pg_name (i := 5) scLaw.nd rfl (Or.inl rfl)) (pgs_cons (pg_name (i := 6) scLaw.nd rfl (Or.inr rfl)) pgs_nil))))
    (pss_cons (ps_if (pt_cmpR op_eq (pe_call G2 hr1 (by rfl) g2 F2.kp b2 .nil pass0 (pa_cons (pv 1) (pa_cons pe_int pa_nil))) pe_int (nomark _))
        (pss_one (ps_set (i := 5) scLaw.nd rfl (Or.inl rfl) (pe_call G3 hr1 (by rfl) g3 F3.kp b3 .nil pass0 (pa_cons (pv 4) (pa_cons (pv 5) (pa_cons (pe_call G4 hr2 (by rfl) g4 F4.kp b4 .nil pass0 (pa_cons (pv 1) (pa_cons (pe_lst (pa_cons pe_int (pa_cons pe_int (pa_cons pe_int pa_nil)))) pa_nil))) pa_nil))))))
        pss_nil) h2)))), fun k a d l y2 y3 y4 y5 y6 y7 y8 y9 y10 y11 y12 H D kx => ?_⟩
  refine ⟨_, rfl, ?_⟩
  refine lst_tups (K := K) tups14 fun p ks H1 s1 tl e np hp => ?_
  have hkl : ks.length = 14 := by
    have := congrArg List.length e
    rw [List.length_map] at this
    exact this
  have D1 := s1.deck D
  obtain ⟨⟨dm, dk, hd1⟩, dns, hd2⟩ := deck_ref D
  refine ⟨d, l, p, rf ks, rfl, D1, hp, (ne_of_none hd2 np).symm, by rw [List.length_map, hkl]; decide, by rw [List.length_map, hkl]; decide, fun v0 H2 hv D2 k2' => ?_⟩
  obtain ⟨⟨va, r⟩, hq, rfl⟩ := List.mem_map.mp hv
  have h14 : r ∈ R14 := by
    rw [← e]
    exact List.mem_map_of_mem (f := fun q : Addr × List Int => q.2) hq
  have hva : SqT K H2 va (r.map V.int) := k2'.sqt D1 (tl _ hq)
  refine ⟨_, rfl, _, r, rfl, ⟨va, rfl, hva⟩, h14, fun dF H3 s3 hF ndF => ?_⟩
  have D3 := s3.deck D2
  obtain ⟨fa, fp, hf1, hf2, hf3⟩ := hF
  have hF : FlD K H3 dF r := ⟨fa, fp, hf1, hf2, hf3⟩
  have pn : 1 ≤ (placesL r).length ∧ (placesL r).length < 1000000 := ⟨List.length_pos_iff.mpr (List.ne_nil_of_mem (st0_in r h14)), by have := r14_n h14; omega⟩
  obtain ⟨k5, hk5, e5, t5⟩ := hf3
  have l5 : (rf k5).length = (placesL r).length := by rw [← e5, List.length_map, List.length_map]
  refine ⟨_, rfl, _, rfl, dF, _, rfl, fl_places hf1, d, l, fp, rf k5, rfl, D3, hk5, pl_ne D3 h14 ⟨k5, hk5, e5, t5⟩, by rw [l5]; exact pn.1, by rw [l5]; exact pn.2, fun u0 H4 hu0 D4 k4 => ?_⟩
  obtain ⟨⟨ua, lb⟩, hq2, rfl⟩ := List.mem_map.mp hu0
  have hl : lb ∈ placesL r := by
    rw [← e5]
    exact List.mem_map_of_mem (f := fun q : Addr × List Int => q.2) hq2
  have hua : SqT K H4 ua (lb.map V.int) := k4.sqt D3 (t5 _ hq2)
  have hF4 := k4.fld D3 h14 hF
  have hva4 := k4.sqt D3 (s3.tup hva)
  obtain ⟨fa6, fp6, hf61, hf62, hf63⟩ := hF4
  have hF4 : FlD K H4 dF r := ⟨fa6, fp6, hf61, hf62, hf63⟩
  obtain ⟨k6, hk6, e6, t6⟩ := hf63
  have l6 : (rf k6).length = (placesL r).length := by rw [← e6, List.length_map, List.length_map]
  refine ⟨_, rfl, _, rfl, dF, _, rfl, fl_places hf61, d, l, fp6, rf k6, rfl, D4, hk6, pl_ne D4 h14 ⟨k6, hk6, e6, t6⟩, by rw [l6]; exact pn.1, by rw [l6]; exact pn.2, fun z0 H5 hz0 D5 k5' => ?_⟩
  obtain ⟨⟨za, x⟩, hq3, rfl⟩ := List.mem_map.mp hz0
  have hx : x ∈ placesL r := by
    rw [← e6]
    exact List.mem_map_of_mem (f := fun q : Addr × List Int => q.2) hq3
  have hza : SqT K H5 za (x.map V.int) := k5'.sqt D4 (t6 _ hq3)
  have hua5 := k5'.sqt D4 hua
  have hF5 := k5'.fld D4 h14 hF4
  have hva5 := k5'.sqt D4 hva4
  refine ⟨by show 2 ≤ sizeLine; decide, fun t0 ht0 => ?_⟩
  have s6 : Same H5 (upd H5 t0 (.tup [.ref ua, .ref za])) := same_upd ht0
  refine ⟨t0, _, rfl, SqT.of upd_same, rfl, _, _, rfl, _, _, rfl, rfl, ?_⟩
  have D6 := s6.deck D5
  have hF6 := s6.fld hF5
  have hva6 := s6.tup hva5
  have hua6 := s6.tup hua5
  have hza6 := s6.tup hza
  generalize upd H5 t0 (.tup [.ref ua, .ref za]) = H6 at *
  refine ⟨_, rfl, d, l, 3, rfl, D6, by decide, by decide, fun n H7 _ _ D7 k7 => ⟨rfl, _, rfl, ?_⟩⟩
  have hF7 := k7.fld D6 h14 hF6
  have hva7 := k7.sqt D6 hva6
  have hua7 := k7.sqt D6 hua6
  have hza7 := k7.sqt D6 hza6
  refine ite2 (fun c => ?_) fun c => ?_
  · refine ⟨_, rfl, _, rfl, _, rfl, by show 3 ≤ sizeLine; decide, fun pl npl => ?_⟩
    have s8 : Same H7 (upd H7 pl (.lst [.int 2, .int 3, .int 6])) := same_upd npl
    obtain ⟨_, dns7, hd7⟩ := deck_ref D7
    have D8 := s8.deck D7
    refine ⟨d, l, pl, _, rfl, D8, upd_same, (ne_of_none hd7 npl).symm, by decide, by decide, fun vj H8 hvj D9 k8 => ?_⟩
    obtain ⟨j, rfl, j1, j2⟩ : ∃ j : Int, vj = .int j ∧ -1000 ≤ j ∧ j ≤ 1000 := by
      simp only [List.mem_cons, List.not_mem_nil, or_false] at hvj
      rcases hvj with rfl | rfl | rfl
      · exact ⟨2, rfl, by decide, by decide⟩
      · exact ⟨3, rfl, by decide, by decide⟩
      · exact ⟨6, rfl, by decide, by decide⟩
    have hF8 := k8.fld D8 h14 (s8.fld hF7)
    have hua8 := k8.sqt D8 (s8.tup hua7)
    refine ⟨dF, .ref ua, r, lb, j, rfl, hF8, ⟨ua, rfl, hua8⟩, h14, r14_whole h14 hl, j1, j2, fun t H9 s9 nt ht => ?_⟩
    exact k2 _ _ _ _ _ _ _ _ _ _ _ _ _ _ _ _ _ _ _ (s9.deck D9) (s9.fld hF8) ⟨va, rfl, s9.tup (k8.sqt D8 (s8.tup hva7))⟩ ⟨t, rfl, SqT.of ht⟩ ⟨za, rfl, s9.tup (k8.sqt D8 (s8.tup hza7))⟩ h14 (repL_in h14) hx kx
  · exact k2 _ _ _ _ _ _ _ _ _ _ _ _ _ _ _ _ _ _ _ D7 hF7 ⟨va, rfl, hva7⟩ ⟨ua, rfl, hua7⟩ ⟨za, rfl, hza7⟩ h14 hl hx kx
end
end K18

namespace K18
open PySem PySem.Spec PyProof.Rows L2
/-! ### the law's def, where nothing is being shown -/
theorem fn_at {CX : CXT} {P : Program} {w : World} {K : PySem.W.Frag} {mg : Str → Option Value} {base : Heap} {k : Nat} {f : Addr} {name qual : Str} {params : Arguments} {body : List Stmt} {scope : Scope} {fd : FuncData} {N ps : List Str} {sp : Sp} {A : Around} (F : FunD K name qual params body scope [] [] f fd) (S : FnScope N ps scope)
    (len : ∀ vs H Q E, sp vs H Q E → vs.length = ps.length) (hr : Room (k + 1) A)
    (hbody : ∀ (cdv : Value) (outer : List Env) (s : Shared) (H : Hp) (vs : List V) (Q : VK) (E : XK), Room k (A.deeper (envOfC qual scope s.heap.objs.size f cdv)) → sp vs H Q E →
      ∃ t, PSs (cxOf CX P w K mg base N qual scope f cdv A outer s H E) body t ∧ t { nx := fun _ H' => Q .non H', rt := Q } (start N vs) H)
    (outer : List Env) (s : Shared) (H : Hp) (args : Args) (us : List Value) (vs : List V) (Q : VK) (E : XK) (e0 : Env0 P w K mg base A outer s H) (hb : BindsTo s fd args (ps.zip us)) (r : Vals vs us) (hsp : sp vs H Q E) :
    codeAny (model P w) A (.call (.ref f) args) (CR CX outer P w H s Q E) s := by
  obtain ⟨oc, od, dV, kV, doc, pm, an, cdv, ct, osl, rfl, lk, hcd, _, _⟩ := F.ex
  have hl := len _ _ _ _ hsp
  have KX : K.In s.heap := e0.mod.kin.keeps fun b o e => (e0.bs b o e).1
  have lim : s.heap.NoLimit := e0.mod.nolimit.keeps fun b o e => (e0.bs b o e).1
  have hkind : ∀ y ∈ ps.zip us, scope.names.lookup y.1 = some .local ∨ (scope.names.lookup y.1 = some .cell ∧ ((cellsFrom (s.heap.objs.size + 1) scope.names []).lookup y.1).isSome = true) := fun ⟨n, v⟩ hy => by
    rcases S.par n (List.of_mem_zip hy).1 with q | q
    · exact .inl q
    · exact .inr ⟨q, PySem.W.cellsFrom_some _ _ _ (.inl q)⟩
  refine codeAny_call_function hr.depth (KX _ _ lk) rfl S.co S.gen rfl (PySem.W.codeRec_of KX hcd) (hb _ _ _ _ ?_)
  refine wpAny_newFunctionEnv_cells S.kind hkind fun env he s1 x => ?_
  subst he
  refine ⟨lim.keeps x.toInCall.keep, codeAny_func ?_⟩
  obtain ⟨t, ht, hq⟩ := hbody cdv outer s H vs Q E (hr.deeper _) hsp
  have I : Inv (cxOf CX P w K mg base N qual scope f cdv A outer s H E) [] (start N vs) H s1 := inv_start S hr.hd e0 hl r x
  refine wpAny_mono (ht.run [] s1 (start N vs) H _ I hq) (fun fl s' hs => ?_) fun e s' hs => hs
  cases fl with
  | ret u =>
    obtain ⟨v, σ', H', J, rv, q⟩ := hs
    exact ⟨v, H', J.os, J.bare, J.base, J.hok, rv, q⟩
  | next =>
    obtain ⟨σ', H', J, q⟩ := hs
    exact ⟨.non, H', J.os, J.bare, J.base, J.hok, rfl, q⟩
  | brk =>
    obtain ⟨_, _, _, q⟩ := hs
    exact False.elim q
  | cont =>
    obtain ⟨_, _, _, q⟩ := hs
    exact False.elim q
def spLaw (K : PySem.W.Frag) : Sp := fun vs H Q _ => ∃ (a : Addr) (ns : List Int), vs = [.ref a] ∧ SqL K H a (ns.map V.int) ∧ ns.length ≤ 63 ∧ ∀ H', Q (.bl true) H'
section
variable {P : Program} {w : World} {K : PySem.W.Frag} {mg : Str → Option Value} {base : Heap} {f f1 f2 f3 f4 f5 f6 f7 f8 f9 f10 : Addr} {fd fd1 fd2 fd3 fd4 fd5 fd6 fd7 fd8 fd9 fd10 : FuncData}
theorem ok_law (F : FnP K "law" sLaw f fd) (B : Bl mg)
    (F1 : FnP K "_law_deck" sDeck f1 fd1) (g1 : mg "_law_deck" = some (.ref f1)) (G1 : FnOk P w K mg base CX0 1 f1 fd1 ["script"] (spDeck K))
    (F2 : FnP K "_law_draw" sDraw f2 fd2) (g2 : mg "_law_draw" = some (.ref f2)) (G2 : FnOk P w K mg base CX0 1 f2 fd2 ["deck", "below"] spDraw)
    (F3 : FnP K "_law_pick" sPick f3 fd3) (g3 : mg "_law_pick" = some (.ref f3)) (G3 : FnOk P w K mg base CX0 2 f3 fd3 ["deck", "some"] (spPick K))
    (F4 : FnP K "_law_common" sCommon f4 fd4) (g4 : mg "_law_common" = some (.ref f4)) (G4 : FnOk P w K mg base CX0 1 f4 fd4 ["one", "other"] spCommon)
    (F5 : FnP K "_law_class" sLClass f5 fd5) (g5 : mg "_law_class" = some (.ref f5)) (G5 : FnOk P w K mg base CX0 2 f5 fd5 ["floor", "label"] (spLClass K))
    (F6 : FnP K "_law_floor" sLFloor f6 fd6) (g6 : mg "_law_floor" = some (.ref f6)) (G6 : FnOk P w K mg base CX0 2 f6 fd6 ["rings"] (spLFloor K))
    (F7 : FnP K "_law_class_sum" sLSum f7 fd7) (g7 : mg "_law_class_sum" = some (.ref f7)) (G7 : FnOk P w K mg base CX0 2 f7 fd7 ["floor", "label", "place"] (spLSum K))
    (F8 : FnP K "_law_times" sTimes f8 fd8) (g8 : mg "_law_times" = some (.ref f8)) (G8 : FnOk P w K mg base CX0 1 f8 fd8 ["floor", "place", "j"] (spTimes K))
    (F9 : FnP K "class_sum" sClSum f9 fd9) (g9 : mg "class_sum" = some (.ref f9)) (G9 : FnOk P w K mg base CX0 6 f9 fd9 ["rings", "label", "place"] (spClSum K))
    (F10 : FnP K "classes" sClasses f10 fd10) (g10 : mg "classes" = some (.ref f10)) (G10 : FnOk P w K mg base CX0 6 f10 fd10 ["rings"] (spClasses K))
    {A : Around} (hA : A.guards = some []) (hr : Room 7 A) (outer : List Env) (s : Shared) (H : Hp) (args : Args) (us : List Value) (vs : List V) (Q : VK) (E : XK) (e0 : Env0 P w K mg base A outer s H)
    (hb : BindsTo s fd args ((["script"] : List Str).zip us)) (r : Vals vs us) (hsp : spLaw K vs H Q E) : codeAny (model P w) A (.call (.ref f) args) (CR CX0 outer P w H s Q E) s := by
  have b1 : L2.Binds K fd1 ["script"] [] := F1.bindsN fun _ _ _ _ _ _ us hl => match us, hl with | [_], _ => rfl
  refine fn_at F scLaw (fun vs H Q E h => ?_) hr (fun cdv outer s H vs Q E hr h => ?_) outer s H args us vs Q E e0 hb r hsp
  · obtain ⟨a, ns, rfl, _⟩ := h
    rfl
  · have hr1 : Room 1 _ := hr.mono (by decide : 1 ≤ 6)
    obtain ⟨t3, p3, k3⟩ := half3 (P := P) (w := w) (base := base) (f := f) (cdv := cdv) (outer := outer) (s0 := s) (H0 := H) (E := E) B hA hr F9 g9 G9 F10 g10 G10 F5 g5 G5 F2 g2 G2
    obtain ⟨t2, p2, k2⟩ := half2 (P := P) (w := w) (base := base) (f := f) (cdv := cdv) (outer := outer) (s0 := s) (H0 := H) (E := E) B hA hr p3 k3 F9 g9 G9 F7 g7 G7 F8 g8 G8 F3 g3 G3 F4 g4 G4
    obtain ⟨t1, p1, k1⟩ := half1 (P := P) (w := w) (base := base) (f := f) (cdv := cdv) (outer := outer) (s0 := s) (H0 := H) (E := E) B hr p2 k2 F6 g6 G6 F2 g2 G2 F8 g8 G8 F3 g3 G3
    refine ⟨_, PSs.nox (pss_cons (ps_set (i := 1) scLaw.nd rfl (Or.inl rfl) (pe_call G1 hr1 (by rfl) g1 F1.kp b1 .nil pass0 (pa_cons (pv 0) pa_nil)))
      (pss_cons (ps_for PassesOwn.never rfl (pi_range1 rfl (B "range" (by decide +kernel)) (pa_cons pe_int pa_nil)) (pg_name (i := 2) scLaw.nd rfl (Or.inl rfl)) p1)
      (pss_one (ps_ret pe_bl)))), ?_⟩
    obtain ⟨a, ns, rfl, hS, hlen, hQ⟩ := h
    refine ⟨_, rfl, a, ns, rfl, hS, hlen, fun d l H1 D1 _ _ _ => ?_⟩
    refine ⟨3, rfl, by decide, by decide, for_range (lo := 0) (n := 3) (fun i σ' H' => ∃ (y2 y3 y4 y5 y6 y7 y8 y9 y10 y11 y12 : Option V), σ' = [some (.ref a), some (.ref d), y2, y3, y4, y5, y6, y7, y8, y9, y10, y11, y12] ∧ DeckAt d l H') ⟨_, _, _, _, _, _, _, _, _, _, _, rfl, D1⟩ ?_ ?_⟩
    · rintro i σ' H' _ ⟨y2, y3, y4, y5, y6, y7, y8, y9, y10, y11, y12, rfl, D2⟩
      exact k1 _ a d l _ _ _ _ _ _ _ _ _ _ _ _ D2 fun _ _ _ _ _ _ _ _ _ _ _ _ D3 => ⟨_, _, _, _, _, _, _, _, _, _, _, rfl, D3⟩
    · rintro σ' H' _
      exact hQ _
end
end K18

/-! The head: the facts, the run. -/
namespace K18
open PySem PySem.Spec PyProof.Rows L2
def dGlo (x : Str) (st : Stmt) : He.DefD := ⟨(x, none), x, x, defArgs st, defBody st, defScope st, [], []⟩
def dMe (m q : Str) (st : Stmt) : He.DefD := ⟨("Floor", some m), m, q, defArgs st, defBody st, defScope st, [], []⟩
def fn : List He.DefD := [dGlo "units_of" sUnits, dGlo "primes_of" sPrimes, dGlo "list_places" sPlaces, dGlo "common_order" sOrder, dGlo "repeated" sRep, dGlo "kin_of" sKin, dGlo "paired" sPaired, dGlo "polynomial_of" sPoly, dGlo "_stretched" sStr, dGlo "_divided" sDiv, dGlo "reduced" sRed, dGlo "is_integer" sIsInt, dGlo "is_integers" sIsInts, dGlo "are_rings" sAre, dGlo "_size" sSize, dGlo "check_rings" sChkR, dGlo "is_place" sIsPl, dGlo "check_place" sChkP, dGlo "order_of" sOrdOf, dGlo "classes" sClasses, dGlo "class_sum" sClSum, dGlo "_sum_of_turns" sSumT, dGlo "_law_deck" sDeck, dGlo "_law_draw" sDraw, dGlo "_law_pick" sPick, dGlo "_law_common" sCommon, dGlo "_law_pairing" sLPair, dGlo "_law_class" sLClass, dGlo "_law_floor" sLFloor, dGlo "_law_sign" sSign, dGlo "_law_class_sum" sLSum, dGlo "_law_times" sTimes, dGlo "law" sLaw] ++ [dMe "__init__" "Floor.__init__" sFInit, dMe "pairing_of" "Floor.pairing_of" sFPair]
def fa : List He.Fa := [.glo "units_of", .glo "primes_of", .glo "list_places", .glo "common_order", .glo "repeated", .glo "kin_of", .glo "paired", .glo "polynomial_of", .glo "_stretched", .glo "_divided", .glo "reduced", .glo "is_integer", .glo "is_integers", .glo "are_rings", .glo "_size", .glo "check_rings", .glo "is_place", .glo "check_place", .glo "order_of", .glo "classes", .glo "class_sum", .glo "_sum_of_turns", .glo "_law_deck", .glo "_law_draw", .glo "_law_pick", .glo "_law_common", .glo "_law_pairing", .glo "_law_class", .glo "_law_floor", .glo "_law_sign", .glo "_law_class_sum", .glo "_law_times", .glo "law"] ++ blt.map .free ++ [.int "MOST_RINGS" 4, .int "MOST_PLACES" 60, .glo "Floor", .cls "Floor", .noat "Floor" "rings", .noat "Floor" "order", .noat "Floor" "polynomial", .noat "Floor" "degree", .noat "Floor" "places", .mkr "Floor", .meth "Floor" "pairing_of"]
def ex (K : PySem.W.Frag) : Bool := He.eqO (PySem.W.nsIn K mainGlobals "gcd") (some (some (.builtin "math.gcd"))) && He.eqO (PySem.W.nsIn K mainGlobals "lcm") (some (some (.builtin "math.lcm")))
abbrev AlK : Type := He.AlD × Bool
def obsK (n : Nat) (g : Addr → Option Obj) : AlK := (He.obsD fa fn (He.frG g (He.asD g n)), ex (He.frG g (He.asD g n)))
def valK : AlK := (He.valD fn, true)
theorem obs_of {g : Addr → Option Obj} (e : obsK 6 g = valK) : He.SaysD fa fn (He.frG g (He.asD g 6)) ∧ ex (He.frG g (He.asD g 6)) = true := by
  unfold obsK valK at e
  exact Prod.mk.inj e
def hk : PySem.W.Hook where
  α := AlK
  obs := fun s => obsK 6 s.heap.get?
  val := fun _ => valK
  says := fun _ h => ∃ K : PySem.W.Frag, K.In h ∧ He.SaysD fa fn K ∧ ex K = true
  of := fun _ _ e => ⟨_, He.frG_in, obs_of e⟩
  keeps := fun _ _ _ ⟨K, hK, c⟩ k => ⟨K, PySem.W.Frag.In.keeps hK k, c⟩
abbrev R : PySem.W.OpenRow := PySem.W.OpenLaw.row PySem.Challenge.rw_ringvoices_k18_whole_class_sums
def ob (s : PySem.W.SharedT) : AlK := obsK 6 (HandSHeadRun.getT s)
theorem ob_eq (s : PySem.W.SharedT) : ob s = hk.obs s.abs :=
  congrArg (obsK 6) (funext (HandSHeadRun.getT_eq s))
def loose1 : List Str := ["_wall", "units_of", "primes_of", "list_places", "common_order", "repeated", "kin_of", "paired", "polynomial_of", "_stretched", "_divided", "reduced", "is_integer", "is_integers", "are_rings", "_size", "check_rings", "is_place", "check_place", "order_of", "classes", "class_sum"]
def loose2 : List Str := ["_sum_of_turns", "_law_deck", "_law_draw", "_law_pick", "_law_common", "_law_pairing", "_law_class", "_law_floor", "_law_sign", "_law_class_sum", "_law_times", "Floor", "RingError", "BadRings", "BadPlace", "MOST_RINGS", "MOST_PLACES"]
def loose : List Str := loose1 ++ loose2
theorem run (w : World) : HandSHeadRun.RunEqI R (PySem.W.view R.prog [0, 49]) hk ob 8000 loose w := by
  unfold HandSHeadRun.RunEqI
  kernel_rfl
end K18

/-! The law's end. -/
namespace K18
open PySem PySem.Spec PyProof.Rows L2
abbrev LW : PySem.W.OpenLaw := PySem.Challenge.rw_ringvoices_k18_whole_class_sums
abbrev PL : Program := LW.prog
/-! ### a law whose promise stands at the first caller alone -/
theorem law_callA {P : Program} {w : World} {K : PySem.W.Frag} {mg mb : Str → Option Value} {CX : CXT} {fa a : Addr} {fd : FuncData} {x : Str} {sp : Sp} {s₁ : Shared} {vs : List Value} {ns : List Int}
    (KX : K.In s₁.heap) (hns : s₁.heap.Ns mainGlobals mg) (hb : s₁.heap.Ns builtinsNs mb) (hbb : ∀ x : Str, x ≠ "__name__" → mb x = bootBuiltins x) (hlim : s₁.heap.NoLimit) (hg : s₁.gens = #[])
    (ha : s₁.heap.get? a = some { cls := .type "list", data := .seq vs.toArray }) (hi : IntsAre vs ns) (hl : ns.length ≤ sizeLine)
    (F : ∀ base : Heap, K.In base → base.Ns mainGlobals mg → ∀ (s : Shared) (H : Hp) (args : Args) (us : List Value) (vs : List V) (Q : VK) (E : XK), Env0 P w K mg base callerA [] s H → BindsTo s fd args ([x].zip us) → Vals vs us → sp vs H Q E → codeAny (model P w) callerA (.call (.ref fa) args) (CR CX [] P w H s Q E) s) (hbind : ∀ (s : Shared) (u : Value), BindsTo s fd ⟨[u], []⟩ [(x, u)])
    (hsp : ∀ H : Hp, Only H → SqL K H a (ns.map V.int) → sp [.ref a] H (fun v _ => v = .bl true) fun _ _ _ => False)
    (hCX : ∀ H e s', CX [] H s₁ (fun _ _ _ => False) e s' → False) :
    codeAny (model P w) callerA (.call (.ref fa) ⟨[.ref a], []⟩) (fun r s' => r = .ok (.ret (.bool true)) ∧ OldK s₁.heap s'.heap ∧ s'.os = s₁.os ∧ AllBare s'.gens) s₁ := by
  have rv := vals_ints hi
  have lenV := hi.length
  -- from an abstract heap in which nothing but the script may be tracked
  have core : ∀ H : Hp, Only H → SqL K H a (ns.map V.int) → HOk P w H s₁.heap → (∀ b, H b ≠ none → b = a) → (H a ≠ none → K.lookup a = none) →
      codeAny (model P w) callerA (.call (.ref fa) ⟨[.ref a], []⟩) (fun r s' => r = .ok (.ret (.bool true)) ∧ OldK s₁.heap s'.heap ∧ s'.os = s₁.os ∧ AllBare s'.gens) s₁ := by
    intro H hO hS hok hA hK
    have base_of : ∀ {b : Addr} {o : Obj}, s₁.heap.get? b = some o → H b = none → (hidT s₁.heap H).get? b = some o := fun e n => hidT_get e n
    have noA : ∀ {b : Addr} {o : Obj} {es : Array DictEntry} {ep : Nat}, s₁.heap.get? b = some o → o.data = .dict es ep → H b = none := fun {b o es ep} e d => by
      cases q : H b with
      | none => rfl
      | some u =>
        have e' : b = a := hA b (by rw [q]; simp)
        subst e'
        rw [ha] at e; cases e
        have d' : Data.seq vs.toArray _ = Data.dict es ep := d
        cases d'
    have nsK : ∀ {b : Addr} {m : Str → Option Value}, s₁.heap.Ns b m → (hidT s₁.heap H).Ns b m := fun {b m} ⟨o, es, ep, e, d, r⟩ => ⟨o, es, ep, base_of e (noA e d), d, r⟩
    have hKb : K.In (hidT s₁.heap H) := fun b o e => base_of (KX b o e) (by
      cases q : H b with
      | none => rfl
      | some u =>
        have e' : b = a := hA b (by rw [q]; simp)
        subst e'
        rw [hK (by rw [q]; simp)] at e; cases e)
    have hM : Mod K mg (hidT s₁.heap H) := ⟨hKb, nsK hns, ⟨mb, nsK hb, hbb⟩, let ⟨mc, h1, h2⟩ := hlim; ⟨mc, nsK h1, h2⟩⟩
    have e0 : Env0 P w K mg (hidT s₁.heap H) callerA [] s₁ H := ⟨rfl, hM, fun b o e => of_hidT e, Nat.le_of_eq (hidT_size _ _), trivial, fun b hb => absurd (show b ∈ ([] : List Addr) from hb) (by simp), hok, .of_eq hg⟩
    refine codeAny_mono (F _ hKb (nsK hns) s₁ H ⟨[.ref a], []⟩ [.ref a] [.ref a] _ _ e0 (hbind s₁ (.ref a)) (.cons rfl .nil) (hsp H hO hS)) fun r s' h => ?_
    cases r with
    | error e => exact (hCX H e s' h).elim
    | ok fl =>
      cases fl with
      | next => exact False.elim h
      | brk => exact False.elim h
      | cont => exact False.elim h
      | ret u =>
        obtain ⟨v, H', os, bare, un, hok', r', q⟩ := h
        have q' : v = .bl true := q
        subst q'
        obtain rfl : u = Value.bool true := r'
        refine ⟨rfl, OldK.of_keep fun b o e => ?_, os, bare⟩
        cases q : H b with
        | none => exact un.keep b o e q (by intro z; exact absurd (show b ∈ ([] : List Addr) from z) (by simp)) (by simp)
        | some u =>
          rcases hO b with z | ⟨ob, xs, z⟩
          · rw [q] at z; cases z
          · have z2 := un.frzs b ob _ z
            obtain ⟨e1, _⟩ := hok b _ z
            obtain ⟨e2, _⟩ := hok' b _ z2
            rw [e] at e1; cases e1
            exact e2
  cases hk : K.lookup a with
  | some o =>
    -- the script is one of the module's own objects
    have e := KX a o hk
    rw [ha] at e
    cases e
    refine core (fun _ => none) (fun _ => .inl rfl) (.inr ⟨_, vs.toArray, _, hk, rfl, rfl, rfl, by rw [List.size_toArray, lenV]; exact hl, by simpa using rv⟩) (fun b u z => by have z' : (none : Option HO) = some u := z; cases z') (fun b z => absurd rfl z) fun z => absurd rfl z
  | none =>
    refine core (fun b => if b = a then some (.frz { cls := .type "list", data := .seq vs.toArray } (.lst (ns.map V.int))) else none) (fun b => ?_) (.inl (.inr ⟨{ cls := .type "list", data := .seq vs.toArray }, if_pos rfl⟩)) (fun b u z => ?_) (fun b z => ?_) fun _ => hk
    · by_cases hb : b = a
      · exact .inr ⟨_, _, if_pos hb⟩
      · exact .inl (if_neg hb)
    · by_cases hb : b = a
      · have z' := (if_pos hb).symm.trans z
        cases z'
        subst hb
        exact ⟨ha, by rw [List.length_map]; exact hl, vs, _, rv, ha⟩
      · have z' := (if_neg hb).symm.trans z
        cases z'
    · by_cases hb : b = a
      · exact hb
      · exact absurd (if_neg hb) z
theorem walk_ofA {l : PySem.W.OpenLaw} {n : Nat} {q : Program} {loose : List Str} {XP : (Str → Option Value) → Heap → Prop} {YP : World → Heap → Prop} {d : DefRec} {CX : CXT} {x : Str}
    (hn : l.most = some n) (hn2 : n ≤ sizeLine) (hdf : d.params.defaults = [])
    (F : ∀ (w : World) (mg : Str → Option Value) (fa : Addr) (h : Heap), YP w h → h.Ns mainGlobals mg → mg d.name = some (.ref fa) →
      ∃ (K : PySem.W.Frag) (fd : FuncData) (sp : Sp), K.In h ∧ (∀ (s : Shared) (u : Value), BindsTo s fd ⟨[u], []⟩ [(x, u)]) ∧
        (∀ (H : Hp) (a : Addr) (ns : List Int), ns.length ≤ n → Only H → SqL K H a (ns.map V.int) → sp [.ref a] H (fun v _ => v = .bl true) fun _ _ _ => False) ∧
        ∀ base : Heap, K.In base → base.Ns mainGlobals mg → ∀ (s : Shared) (H : Hp) (args : Args) (us : List Value) (vs : List V) (Q : VK) (E : XK), Env0 l.prog w K mg base callerA [] s H → BindsTo s fd args ([x].zip us) → Vals vs us → sp vs H Q E → codeAny (model l.prog w) callerA (.call (.ref fa) args) (CR CX [] l.prog w H s Q E) s)
    (hCX : ∀ (H : Hp) (s : Shared) (e : Value) (s' : Shared), CX [] H s (fun _ _ _ => False) e s' → False) :
    PySem.W.WalkO q loose XP YP l.row.toRowW d [] (fun f vs => PySem.call f vs) := by
  refine Att.attach_call hn hdf fun w s₀ s₁ mg mb fa o pm cd doc a vs ns G Y ho hd hcd hmg hobj hints hlen hg => ?_
  obtain ⟨K, fd, sp, KX, hb, hsp, hF⟩ := F w mg fa _ Y G.T.g hmg
  exact law_callA KX G.T.g G.T.b G.T.builtins G.T.nolimit hg hobj hints (Nat.le_trans hlen hn2) hF hb (fun H hO hS => hsp H a ns hlen hO hS) fun H e s' => hCX H s₁ e s'
end K18

/-! The law holds. -/
namespace K18
open PySem PySem.Spec PyProof.Rows L2
section
variable {w : World} {K : PySem.W.Frag} {mg : Str → Option Value} {base h : Heap} {f : Addr}
theorem facts (X : K.In h) (G : h.Ns mainGlobals mg) (hfa : mg ("law" : Str) = some (.ref f)) (c : He.SaysD fa fn K) (c2 : ex K = true) :
    ∃ fd : FuncData, (∀ (s : Shared) (v : Value), BindsTo s fd ⟨[v], []⟩ [("script", v)]) ∧ ∀ base : Heap, K.In base → base.Ns mainGlobals mg → ∀ (s : Shared) (H : Hp) (args : Args) (us : List Value) (vs : List V) (Q : VK) (E : XK), Env0 PL w K mg base callerA [] s H → BindsTo s fd args ((["script"] : List Str).zip us) → Vals vs us → spLaw K vs H Q E → codeAny (model PL w) callerA (.call (.ref f) args) (CR CX0 [] PL w H s Q E) s := by
  obtain ⟨fd0, F0⟩ := c.def_ 0 (d := dGlo "units_of" sUnits) rfl
  obtain ⟨fd1, F1⟩ := c.def_ 1 (d := dGlo "primes_of" sPrimes) rfl
  obtain ⟨fd2, F2⟩ := c.def_ 2 (d := dGlo "list_places" sPlaces) rfl
  obtain ⟨fd3, F3⟩ := c.def_ 3 (d := dGlo "common_order" sOrder) rfl
  obtain ⟨fd4, F4⟩ := c.def_ 4 (d := dGlo "repeated" sRep) rfl
  obtain ⟨fd5, F5⟩ := c.def_ 5 (d := dGlo "kin_of" sKin) rfl
  obtain ⟨fd6, F6⟩ := c.def_ 6 (d := dGlo "paired" sPaired) rfl
  obtain ⟨fd7, F7⟩ := c.def_ 7 (d := dGlo "polynomial_of" sPoly) rfl
  obtain ⟨fd8, F8⟩ := c.def_ 8 (d := dGlo "_stretched" sStr) rfl
  obtain ⟨fd9, F9⟩ := c.def_ 9 (d := dGlo "_divided" sDiv) rfl
  obtain ⟨fd10, F10⟩ := c.def_ 10 (d := dGlo "reduced" sRed) rfl
  obtain ⟨fd11, F11⟩ := c.def_ 11 (d := dGlo "is_integer" sIsInt) rfl
  obtain ⟨fd12, F12⟩ := c.def_ 12 (d := dGlo "is_integers" sIsInts) rfl
  obtain ⟨fd13, F13⟩ := c.def_ 13 (d := dGlo "are_rings" sAre) rfl
  obtain ⟨fd14, F14⟩ := c.def_ 14 (d := dGlo "_size" sSize) rfl
  obtain ⟨fd15, F15⟩ := c.def_ 15 (d := dGlo "check_rings" sChkR) rfl
  obtain ⟨fd16, F16⟩ := c.def_ 16 (d := dGlo "is_place" sIsPl) rfl
  obtain ⟨fd17, F17⟩ := c.def_ 17 (d := dGlo "check_place" sChkP) rfl
  obtain ⟨fd18, F18⟩ := c.def_ 18 (d := dGlo "order_of" sOrdOf) rfl
  obtain ⟨fd19, F19⟩ := c.def_ 19 (d := dGlo "classes" sClasses) rfl
  obtain ⟨fd20, F20⟩ := c.def_ 20 (d := dGlo "class_sum" sClSum) rfl
  obtain ⟨fd21, F21⟩ := c.def_ 21 (d := dGlo "_sum_of_turns" sSumT) rfl
  obtain ⟨fd22, F22⟩ := c.def_ 22 (d := dGlo "_law_deck" sDeck) rfl
  obtain ⟨fd23, F23⟩ := c.def_ 23 (d := dGlo "_law_draw" sDraw) rfl
  obtain ⟨fd24, F24⟩ := c.def_ 24 (d := dGlo "_law_pick" sPick) rfl
  obtain ⟨fd25, F25⟩ := c.def_ 25 (d := dGlo "_law_common" sCommon) rfl
  obtain ⟨fd26, F26⟩ := c.def_ 26 (d := dGlo "_law_pairing" sLPair) rfl
  obtain ⟨fd27, F27⟩ := c.def_ 27 (d := dGlo "_law_class" sLClass) rfl
  obtain ⟨fd28, F28⟩ := c.def_ 28 (d := dGlo "_law_floor" sLFloor) rfl
  obtain ⟨fd29, F29⟩ := c.def_ 29 (d := dGlo "_law_sign" sSign) rfl
  obtain ⟨fd30, F30⟩ := c.def_ 30 (d := dGlo "_law_class_sum" sLSum) rfl
  obtain ⟨fd31, F31⟩ := c.def_ 31 (d := dGlo "_law_times" sTimes) rfl
  obtain ⟨fd32, F32⟩ := c.def_ 32 (d := dGlo "law" sLaw) rfl
  obtain ⟨fd33, F33⟩ := c.def_ 33 (d := dMe "__init__" "Floor.__init__" sFInit) rfl
  obtain ⟨fd34, F34⟩ := c.def_ 34 (d := dMe "pairing_of" "Floor.pairing_of" sFPair) rfl
  have e := hfa.symm.trans (He.glo_ok X G (c.fact 32 (f := .glo "law") rfl))
  cases e
  have b := FunD.bindsA (ps := ["script"]) F32 fun _ _ _ _ _ _ us hl => match us, hl with | [_], _ => rfl
  refine ⟨fd32, fun s v => b s [v] rfl, fun base hKb hGb s H args us vs Q E e0 hb r hsp => ?_⟩
  have B : Bl mg := fun x hx => He.free_ok X G (c.facts (f := .free x) (List.mem_append_left _ (List.mem_append_right _ (List.mem_map_of_mem hx))))
  obtain ⟨x1, x2⟩ := He.ba c2
  have gG : mg ("gcd" : Str) = some (.builtin "math.gcd") := PySem.W.mg_of X G (He.eqO_ok x1)
  have gL : mg ("lcm" : Str) = some (.builtin "math.lcm") := PySem.W.mg_of X G (He.eqO_ok x2)
  have gR : ∃ t, mg ("MOST_RINGS" : Str) = some (.int 4 t) := He.int_ok X G (c.fact 50 (f := .int "MOST_RINGS" 4) rfl)
  have gP : ∃ t, mg ("MOST_PLACES" : Str) = some (.int 60 t) := He.int_ok X G (c.fact 51 (f := .int "MOST_PLACES" 60) rfl)
  have T : FlT K mg (He.ga K "Floor") (He.ma K (He.ga K "Floor") "__init__") (He.ma K (He.ga K "Floor") "pairing_of") := {
    cl := He.cls_ok (c.fact 53 (f := .cls "Floor") rfl)
    aR := He.noat_ok (c.fact 54 (f := .noat "Floor" "rings") rfl)
    aO := He.noat_ok (c.fact 55 (f := .noat "Floor" "order") rfl)
    aP := He.noat_ok (c.fact 56 (f := .noat "Floor" "polynomial") rfl)
    aD := He.noat_ok (c.fact 57 (f := .noat "Floor" "degree") rfl)
    aL := He.noat_ok (c.fact 58 (f := .noat "Floor" "places") rfl)
    mkk := He.mkr_ok (c.fact 59 (f := .mkr "Floor") rfl)
    mt := He.meth_ok (c.fact 60 (f := .meth "Floor" "pairing_of") rfl)
    mgC := He.glo_ok X G (c.fact 52 (f := .glo "Floor") rfl) }
  have g0 : mg ("units_of" : Str) = some (.ref (He.ga K "units_of")) := He.glo_ok X G (c.fact 0 (f := .glo "units_of") rfl)
  have g1 : mg ("primes_of" : Str) = some (.ref (He.ga K "primes_of")) := He.glo_ok X G (c.fact 1 (f := .glo "primes_of") rfl)
  have g2 : mg ("list_places" : Str) = some (.ref (He.ga K "list_places")) := He.glo_ok X G (c.fact 2 (f := .glo "list_places") rfl)
  have g3 : mg ("common_order" : Str) = some (.ref (He.ga K "common_order")) := He.glo_ok X G (c.fact 3 (f := .glo "common_order") rfl)
  have g4 : mg ("repeated" : Str) = some (.ref (He.ga K "repeated")) := He.glo_ok X G (c.fact 4 (f := .glo "repeated") rfl)
  have g5 : mg ("kin_of" : Str) = some (.ref (He.ga K "kin_of")) := He.glo_ok X G (c.fact 5 (f := .glo "kin_of") rfl)
  have g6 : mg ("paired" : Str) = some (.ref (He.ga K "paired")) := He.glo_ok X G (c.fact 6 (f := .glo "paired") rfl)
  have g7 : mg ("polynomial_of" : Str) = some (.ref (He.ga K "polynomial_of")) := He.glo_ok X G (c.fact 7 (f := .glo "polynomial_of") rfl)
  have g8 : mg ("_stretched" : Str) = some (.ref (He.ga K "_stretched")) := He.glo_ok X G (c.fact 8 (f := .glo "_stretched") rfl)
  have g9 : mg ("_divided" : Str) = some (.ref (He.ga K "_divided")) := He.glo_ok X G (c.fact 9 (f := .glo "_divided") rfl)
  have g10 : mg ("reduced" : Str) = some (.ref (He.ga K "reduced")) := He.glo_ok X G (c.fact 10 (f := .glo "reduced") rfl)
  have g11 : mg ("is_integer" : Str) = some (.ref (He.ga K "is_integer")) := He.glo_ok X G (c.fact 11 (f := .glo "is_integer") rfl)
  have g12 : mg ("is_integers" : Str) = some (.ref (He.ga K "is_integers")) := He.glo_ok X G (c.fact 12 (f := .glo "is_integers") rfl)
  have g13 : mg ("are_rings" : Str) = some (.ref (He.ga K "are_rings")) := He.glo_ok X G (c.fact 13 (f := .glo "are_rings") rfl)
  have g14 : mg ("_size" : Str) = some (.ref (He.ga K "_size")) := He.glo_ok X G (c.fact 14 (f := .glo "_size") rfl)
  have g15 : mg ("check_rings" : Str) = some (.ref (He.ga K "check_rings")) := He.glo_ok X G (c.fact 15 (f := .glo "check_rings") rfl)
  have g16 : mg ("is_place" : Str) = some (.ref (He.ga K "is_place")) := He.glo_ok X G (c.fact 16 (f := .glo "is_place") rfl)
  have g17 : mg ("check_place" : Str) = some (.ref (He.ga K "check_place")) := He.glo_ok X G (c.fact 17 (f := .glo "check_place") rfl)
  have g18 : mg ("order_of" : Str) = some (.ref (He.ga K "order_of")) := He.glo_ok X G (c.fact 18 (f := .glo "order_of") rfl)
  have g19 : mg ("classes" : Str) = some (.ref (He.ga K "classes")) := He.glo_ok X G (c.fact 19 (f := .glo "classes") rfl)
  have g20 : mg ("class_sum" : Str) = some (.ref (He.ga K "class_sum")) := He.glo_ok X G (c.fact 20 (f := .glo "class_sum") rfl)
  have g21 : mg ("_sum_of_turns" : Str) = some (.ref (He.ga K "_sum_of_turns")) := He.glo_ok X G (c.fact 21 (f := .glo "_sum_of_turns") rfl)
  have g22 : mg ("_law_deck" : Str) = some (.ref (He.ga K "_law_deck")) := He.glo_ok X G (c.fact 22 (f := .glo "_law_deck") rfl)
  have g23 : mg ("_law_draw" : Str) = some (.ref (He.ga K "_law_draw")) := He.glo_ok X G (c.fact 23 (f := .glo "_law_draw") rfl)
  have g24 : mg ("_law_pick" : Str) = some (.ref (He.ga K "_law_pick")) := He.glo_ok X G (c.fact 24 (f := .glo "_law_pick") rfl)
  have g25 : mg ("_law_common" : Str) = some (.ref (He.ga K "_law_common")) := He.glo_ok X G (c.fact 25 (f := .glo "_law_common") rfl)
  have g26 : mg ("_law_pairing" : Str) = some (.ref (He.ga K "_law_pairing")) := He.glo_ok X G (c.fact 26 (f := .glo "_law_pairing") rfl)
  have g27 : mg ("_law_class" : Str) = some (.ref (He.ga K "_law_class")) := He.glo_ok X G (c.fact 27 (f := .glo "_law_class") rfl)
  have g28 : mg ("_law_floor" : Str) = some (.ref (He.ga K "_law_floor")) := He.glo_ok X G (c.fact 28 (f := .glo "_law_floor") rfl)
  have g29 : mg ("_law_sign" : Str) = some (.ref (He.ga K "_law_sign")) := He.glo_ok X G (c.fact 29 (f := .glo "_law_sign") rfl)
  have g30 : mg ("_law_class_sum" : Str) = some (.ref (He.ga K "_law_class_sum")) := He.glo_ok X G (c.fact 30 (f := .glo "_law_class_sum") rfl)
  have g31 : mg ("_law_times" : Str) = some (.ref (He.ga K "_law_times")) := He.glo_ok X G (c.fact 31 (f := .glo "_law_times") rfl)
  have G0 : FnOk PL w K mg base CX0 1 (He.ga K "units_of") fd0 ["order"] spUnits := ok_units F0 B gG
  have G2 : FnOk PL w K mg base CX0 1 (He.ga K "list_places") fd2 ["rings"] (spPlaces K) := ok_places F2 B
  have G3 : FnOk PL w K mg base CX0 1 (He.ga K "common_order") fd3 ["rings"] (spOrder K) := ok_order F3 B gL
  have G5 : FnOk PL w K mg base CX0 2 (He.ga K "kin_of") fd5 ["rings", "units", "label"] (spKin K) := ok_kin F5 B F4 g4
  have G7 : FnOk PL w K mg base CX0 2 (He.ga K "polynomial_of") fd7 ["order"] (spPoly K) := ok_poly F7 B F1 g1 F9 g9 F8 g8
  have G10 : FnOk PL w K mg base CX0 2 (He.ga K "reduced") fd10 ["items", "polynomial"] (spRed K) := ok_red F10 B F9 g9
  have G12 : FnOk PL w K mg base CX0 2 (He.ga K "is_integers") fd12 ["thing"] (spIsInts K) := ok_isInts F12 B F11 g11
  have G13 : FnOk PL w K mg base CX0 3 (He.ga K "are_rings") fd13 ["thing"] (spAre K) := ok_are F13 B F12 g12 G12 F14 g14 gR gP
  have G15 : FnOk PL w K mg base CX0 4 (He.ga K "check_rings") fd15 ["rings"] (spNon K) := ok_chkR F15 F13 g13 G13
  have G18 : FnOk PL w K mg base CX0 5 (He.ga K "order_of") fd18 ["rings"] (spOrder K) := ok_ordOf F18 F15 g15 G15 F3 g3 G3
  have G16 : FnOk PL w K mg base CX0 3 (He.ga K "is_place") fd16 ["rings", "thing"] (spIsPl K) := ok_isPl F16 B F12 g12 G12
  have G17 : FnOk PL w K mg base CX0 5 (He.ga K "check_place") fd17 ["rings", "place"] (spChkP K) := ok_chkP F17 F15 g15 G15 F16 g16 G16
  have G33 : FnOk PL w K mg base CX0 3 (He.ma K (He.ga K "Floor") "__init__") fd33 ["self", "rings"] (spFInit K (He.ga K "Floor")) := ok_fInit F33 B T F3 g3 G3 F7 g7 G7 F2 g2 G2
  have G34 : FnOk PL w K mg base CX0 2 (He.ma K (He.ga K "Floor") "pairing_of") fd34 ["self", "place", "label"] (spFPair K (He.ga K "Floor")) := ok_fPair F34 B T F6 g6
  have G21 : FnOk PL w K mg base CX0 3 (He.ga K "_sum_of_turns") fd21 ["floor", "labels", "place"] (spSumT K (He.ga K "Floor")) := ok_sumT F21 B T F34 G34 F10 g10 G10
  have G20 : FnOk PL w K mg base CX0 6 (He.ga K "class_sum") fd20 ["rings", "label", "place"] (spClSum K) := ok_clSum F20 T F33 G33 F17 g17 G17 F21 g21 G21 F5 g5 G5 F0 g0 G0
  have G19 : FnOk PL w K mg base CX0 6 (He.ga K "classes") fd19 ["rings"] (spClasses K) := ok_classes F19 B F15 g15 G15 F18 g18 G18 F5 g5 G5 F0 g0 G0 F2 g2 G2
  have G22 : FnOk PL w K mg base CX0 1 (He.ga K "_law_deck") fd22 ["script"] (spDeck K) := ok_deck F22 B
  have G23 : FnOk PL w K mg base CX0 1 (He.ga K "_law_draw") fd23 ["deck", "below"] spDraw := ok_draw F23 B
  have G24 : FnOk PL w K mg base CX0 2 (He.ga K "_law_pick") fd24 ["deck", "some"] (spPick K) := ok_pick F24 F23 g23 B
  have G25 : FnOk PL w K mg base CX0 1 (He.ga K "_law_common") fd25 ["one", "other"] spCommon := ok_common F25 B
  have G27 : FnOk PL w K mg base CX0 2 (He.ga K "_law_class") fd27 ["floor", "label"] (spLClass K) := ok_lClass F27 B F25 g25
  have G28 : FnOk PL w K mg base CX0 2 (He.ga K "_law_floor") fd28 ["rings"] (spLFloor K) := ok_lFloor F28 B F25 g25
  have G30 : FnOk PL w K mg base CX0 2 (He.ga K "_law_class_sum") fd30 ["floor", "label", "place"] (spLSum K) := ok_lSum F30 B F25 g25 F26 g26 F29 g29
  have G31 : FnOk PL w K mg base CX0 1 (He.ga K "_law_times") fd31 ["floor", "place", "j"] (spTimes K) := ok_times F31 B
  exact ok_law F32 B F22 g22 G22 F23 g23 G23 F24 g24 G24 F25 g25 G25 F27 g27 G27 F28 g28 G28 F30 g30 G30 F31 g31 G31 F20 g20 G20 F19 g19 G19 (A := callerA) rfl ⟨rfl, by decide, by decide⟩ [] s H args us vs Q E e0 hb r hsp
end
end K18
open PySem PySem.W PySem.Calls PyProof.Rows
theorem PySem.Challenge.cw_ringvoices_k18_whole_class_sums_holds : PySem.Challenge.rw_ringvoices_k18_whole_class_sums.Holds := by
  w_on; o_law
  refine HandSHeadRun.head_imp (r := K18.R) (q := view K18.R.prog [0, 49]) (H := K18.hk) (ob := K18.ob) (M := 8000) (loose := K18.loose) (d := HandSHeadRun.topDef K18.R.prog 49) (kwd := []) K18.ob_eq
    K18.run (by kernel_rfl) (by kernel_rfl) (by kernel_rfl) (by rfl) (by first | assumption | decide +kernel) (by decide +kernel) ⟨rfl, rfl, rfl, rfl, rfl, by decide +kernel⟩ ?hw ?hc
  case hw => w_witness2
  case hc =>
    refine K18.walk_ofA (l := K18.LW) (n := 63) (x := "script") (CX := L2.CX0) rfl (by decide) (by kernel_rfl) ?F (fun _ _ _ _ z => z)
    intro w mg fa h Y G hmg0
    obtain ⟨K, KX, c, c2⟩ := Y
    have hmg : mg ("law" : PySem.Str) = some (.ref fa) := by
      have e : (HandSHeadRun.topDef K18.R.prog 49).name = ("law" : PySem.Str) := by kernel_rfl
      rw [← e]
      exact hmg0
    obtain ⟨fd, hb, hF⟩ := K18.facts (w := w) KX G hmg c c2
    exact ⟨K, fd, K18.spLaw K, KX, hb, fun H a ns hl _ hS => ⟨a, ns, rfl, hS, hl, fun _ => rfl⟩, hF⟩
