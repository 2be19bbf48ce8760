import PyProof.Rows.All
import Wide.All
import OpenK.AllK
import Wide.FinOn
import KE.KStateDown
import Lean
import HandS.ForMost
import HandS.Ends
import HandS.More
import HandS.Words
import HandS.Defaults
import HandS.Style
import HandS.Star
import HandS.Conv
import HandS.Small
import HandS.TupAny
import HandS.TupMul
import HandS.Gcd
import HandS.IsInst
import HandS.Zip
import HandS.SetBool
import HandS.TupSets
import HandS.Head0
import HandS.Head1
import HandS.Head2
import HandS.HeadEnd
import HandS.HeadHook1
import HandS.HeadHook2
import HandS.HeadHook4
import HandS.Walk
import PyProof.MinMaxWalk
import PyProof.MaxThree
import KE.GoesNew
import HandS.DictComp
import HandS.Wide
import PyProof.ReprRoads
import PyProof.ReprBulk
import PyProof.WalksMore
import PyProof.ConsumeWalk
import HandS.Deep
import HandS.Comp
import PyProof.ListMulRoad
import PyProof.FactsAll.tuple_2
import PySem.Challenge.RW_ringvoices_k09_whole_loudness_subgroups
set_option Elab.async false
set_option linter.all false
set_option maxRecDepth 100000
set_option maxHeartbeats 0
/-! What the defs reckon, as plain functions. -/
namespace K09
def rgL (lo : Int) (n : Nat) : List Int := (List.range n).map fun (i : Nat) => lo + (i : Int)
theorem rgL_succ (lo : Int) (n : Nat) : rgL lo (n + 1) = rgL lo n ++ [lo + (n : Int)] := by
  unfold rgL
  rw [List.range_succ, List.map_append]
  rfl
theorem rgL_len (lo : Int) (n : Nat) : (rgL lo n).length = n := by simp [rgL]
def gcdI (a b : Int) : Int := ((Nat.gcd a.natAbs b.natAbs : Nat) : Int)
def unitsL (e : Int) : List Int := (rgL 1 e.toNat).filter fun j => decide (gcdI j e = 1)
def primesGo (n : Int) : Nat → List Int
  | 0 => []
  | i + 1 => if (decide (n % (2 + (i : Int)) = 0) && ((primesGo n i).map fun p => !decide ((2 + (i : Int)) % p = 0)).all id) = true then primesGo n i ++ [2 + (i : Int)] else primesGo n i
def primesL (n : Int) : List Int := primesGo n (n + 1 - 2).toNat
def plStep (ps : List (List Int)) (len : Int) : List (List Int) := ps.flatMap fun p => (rgL 0 len.toNat).map fun i => p ++ [i]
def placesL (rings : List Int) : List (List Int) := rings.foldl plStep [[]]
def lcmI (a b : Int) : Int := (((Nat.lcm 1 a.natAbs).lcm b.natAbs : Nat) : Int)
def ordL (rings : List Int) : Int := rings.foldl lcmI 1
def repL (rings place : List Int) (many : Int) : List Int := (List.range rings.length).map fun k => place.getD k 0 * many % rings.getD k 0
def pairGo (rings : List Int) (e : Int) (place label : List Int) : Nat → Int
  | 0 => 0
  | k + 1 => pairGo rings e place label k + place.getD k 0 * label.getD k 0 * (e / rings.getD k 0)
def pairL (rings : List Int) (e : Int) (place label : List Int) : Int := pairGo rings e place label rings.length % e
def strN (items : List Int) (by_ : Nat) : Nat → List Int
  | 0 => List.replicate ((items.length - 1) * by_ + 1) 0
  | i + 1 => (strN items by_ i).set (i * by_) (items.getD i 0)
def strL (items : List Int) (by_ : Nat) : List Int := strN items by_ items.length
def subN (h : Int) (dv : List Int) (at_ : Nat) (rest : List Int) : Nat → List Int
  | 0 => rest
  | k + 1 => (subN h dv at_ rest k).set (at_ + k) ((subN h dv at_ rest k).getD (at_ + k) 0 - h * dv.getD k 0)
def divStep (deg : Nat) (dv rest : List Int) : List Int := subN (rest.getLastD 0) dv (rest.length - 1 - deg) rest.dropLast deg
def divGo (deg : Nat) (dv : List Int) : Nat → List Int → List Int → List Int × List Int
  | 0, rest, quo => (quo, rest)
  | n + 1, rest, quo => divGo deg dv n (divStep deg dv rest) (quo ++ [rest.getLastD 0])
def divL (items dv : List Int) : List Int × List Int :=
  let r := divGo (dv.length - 1) dv (items.length - (dv.length - 1)) items []
  (r.1.reverse, r.2)
def redL (items poly : List Int) : List Int := (divL items poly).2 ++ List.replicate (poly.length - 1 - (divL items poly).2.length) 0
def polyStep (s : List Int × Int) (p : Int) : List Int × Int := ((divL (strL s.1 p.toNat) s.1).1, s.2 / p)
def polyL (e : Int) : List Int :=
  let s := (primesL e).foldl polyStep ([-1, 1], e)
  strL s.1 s.2.toNat
def cntL (rings : List Int) (e : Int) (place : List Int) (ps : List (List Int)) : List Int :=
  (List.range e.toNat).map fun (i : Nat) => ((ps.countP fun q => decide (pairL rings e place q = (i : Int)) : Nat) : Int)
/-- the class of a label: those of all places that are the label taken j times -/
def kinS (rings : List Int) (label : List Int) : List (List Int) := (unitsL (ordL rings)).map fun j => repL rings label j
def canL (rings : List Int) (label : List Int) : List (List Int) := (placesL rings).filter fun q => decide (q ∈ kinS rings label)
def csL (rings : List Int) (e : Int) (poly : List Int) (ps : List (List Int)) (place : List Int) : Int := (redL (cntL rings e place ps) poly).getD 0 0
/-! ### the law's own -/
def signGo : List Int → Int → Int → Int
  | [], f, _ => f
  | p :: ps, f, left => if left % p = 0 then (if (left / p) % p = 0 then 0 else signGo ps (-f) (left / p)) else signGo ps f left
def signL (m : Int) : Int := signGo [2, 3, 5, 7, 11, 13, 17, 19, 23, 29, 31, 37, 41, 43, 47, 53, 59] 1 m
def ordGo (rings label : List Int) : Int :=
  (label.zip rings).foldl (fun m xl => let far := xl.2 / gcdI xl.2 xl.1; m * far / gcdI m far) 1
def ramL (m p q : Int) : Int := -- m, the pairing, e / m
  let gap := gcdI m (p / q)
  (((rgL 1 gap.toNat).filter fun d => decide (gap % d = 0)).map fun d => d * signL (m / d)).sum
def dueL (rings : List Int) (e : Int) (label place : List Int) : Int := ramL (ordGo rings label) (pairL rings e place label) (e / ordGo rings label)
def RR : List (List Int) := [[2], [3], [4], [5], [6], [2, 2], [2, 3], [7], [8], [2, 4], [3, 3], [2, 2, 2], [9], [10], [12], [2, 6], [3, 4], [4, 4], [16], [2, 2, 3], [2, 8], [2, 2, 2, 2], [15], [3, 5], [13], [3, 2], [4, 2], [2, 5]]
def repsGo (rings : List Int) : List (List Int) → List (List Int) → List (List Int) → List (List Int)
  | [], _, out => out
  | l :: ls, told, out => if decide (l ∈ told) = true then repsGo rings ls told out else repsGo rings ls (told ++ canL rings l) (out ++ [l])
def repsL (rings : List Int) : List (List Int) := repsGo rings (placesL rings) [] []
end K09

/-! What the defs reckon with numbers, as plain functions. -/
namespace K09
def ER : List Int := [2, 3, 4, 5, 6, 7, 8, 9, 10, 12, 16, 15, 13]
abbrev Num := List Int × Int
def lowC (tops : List Int) (b : Int) : Int := tops.foldl gcdI b
def lowL (tops : List Int) (b : Int) : Num := (tops.map fun t => t / lowC tops b, b / lowC tops b)
def levB (ns : List Num) : Int := ns.foldl (fun b n => lcmI b n.2) 1
def levT (ns : List Num) : List (List Int) := ns.map fun n => n.1.map fun t => t * (levB ns / n.2)
def stepT (e : Int) (tot : List Int) (j v : Int) : List Int := tot.set (j % e).toNat (tot.getD (j % e).toNat 0 + v)
def addN (e p : Int) (tops : List Int) (tot : List Int) : Nat → List Int
  | 0 => tot
  | k + 1 => stepT e (addN e p tops tot k) (p + (k : Int)) (tops.getD k 0)
def tsGo (r : List Int) (e sg : Int) (label : List Int) (items : List (List Int)) : Nat → List Int
  | 0 => List.replicate e.toNat 0
  | i + 1 => addN e (sg * pairL r e ((placesL r).getD i []) label) (items.getD i []) (tsGo r e sg label items i) (items.getD i []).length
def tsL (r : List Int) (sg : Int) (label : List Int) (items : List (List Int)) : List Int := redL (tsGo r (ordL r) sg label items items.length) (polyL (ordL r))
def voL (r : List Int) (ns : List Num) : List Num := (placesL r).map fun l => lowL (tsL r 1 l (levT ns)) (levB ns)
def mulR (one : Int) (i : Nat) (others tot : List Int) : Nat → List Int
  | 0 => tot
  | k + 1 => (mulR one i others tot k).set (i + k) ((mulR one i others tot k).getD (i + k) 0 + one * others.getD k 0)
def mulGo (ones others : List Int) : Nat → List Int
  | 0 => List.replicate (ones.length + others.length - 1) 0
  | i + 1 => mulR (ones.getD i 0) i others (mulGo ones others i) others.length
def mulL (ones others dv : List Int) : List Int := redL (mulGo ones others ones.length) dv
def prodL (e : Int) (a b : Num) : Num := lowL (mulL a.1 b.1 (polyL e)) (a.2 * b.2)
def turnL (e p : Int) : Num := (redL (List.replicate (p % e).toNat 0 ++ [1]) (polyL e), 1)
def sumT (a b : Num) (sg : Int) : List Int := (List.range a.1.length).map fun k => a.1.getD k 0 * b.2 + sg * b.1.getD k 0 * a.2
def sumN (a b : Num) (sg : Int) : Num := lowL (sumT a b sg) (a.2 * b.2)
def rbL (r : List Int) (ns : List Num) : List Num := (placesL r).map fun l => lowL (tsL r (-1) l (levT ns)) (levB ns * ((placesL r).length : Nat))
def someN (ns : List Int) : Bool := ns.any fun n => n != 0
def filL (r : List Int) (ns : List Num) (i : Nat) : List (List Int) := (((placesL r).zip ns).take i).filterMap fun pn => if someN pn.2.1 = true then some pn.1 else none
def notWh (n : Num) : Bool := (!decide (n.2 = 1)) || someN (n.1.drop 1)
def whN (r : List Int) (x : Int) : Num := (x :: List.replicate ((polyL (ordL r)).length - 2) 0, 1)
def rofL (r xs : List Int) : List Num := xs.map (whN r)
def sizeL (r : List Int) : Int := r.foldl (fun a b => a * b) 1
structure NumOk (e : Int) (n : Num) : Prop where
  len : n.1.length = (unitsL e).length
  pos : 1 ≤ n.2
  big : n.2 ≤ 1000
  low : lowL n.1 n.2 = n
structure RowOk (r : List Int) (ns : List Num) : Prop where
  len : ns.length = (placesL r).length
  item : ∀ n ∈ ns, 1 ≤ n.2 ∧ n.2 ≤ 1000 ∧ n.1.length ≤ 1000
  lev : ∀ i ≤ ns.length, 1 ≤ levB (ns.take i) ∧ levB (ns.take i) ≤ 1000
structure RowG (r : List Int) (ns : List Num) : Prop where
  ok : RowOk r ns
  num : ∀ n ∈ ns, NumOk (ordL r) n
end K09

/-! Sums; the remainder by a polynomial, item by item. -/
namespace K09
def sm : Nat → (Nat → Int) → Int
  | 0, _ => 0
  | n + 1, f => sm n f + f n
theorem sm_congr {f g : Nat → Int} : ∀ {n : Nat}, (∀ i, i < n → f i = g i) → sm n f = sm n g
  | 0, _ => rfl
  | n + 1, h => by
    show sm n f + f n = sm n g + g n
    rw [sm_congr fun i hi => h i (by omega), h n (by omega)]
theorem sm_add {f g : Nat → Int} : ∀ n : Nat, sm n (fun i => f i + g i) = sm n f + sm n g
  | 0 => rfl
  | n + 1 => by
    show sm n (fun i => f i + g i) + (f n + g n) = sm n f + f n + (sm n g + g n)
    rw [sm_add n]
    omega
theorem sm_mul {f : Nat → Int} (c : Int) : ∀ n : Nat, sm n (fun i => c * f i) = c * sm n f
  | 0 => by show (0 : Int) = c * 0; omega
  | n + 1 => by
    show sm n (fun i => c * f i) + c * f n = c * (sm n f + f n)
    rw [sm_mul c n, Int.mul_add]
theorem sm_mulR {f : Nat → Int} (c : Int) (n : Nat) : sm n (fun i => f i * c) = sm n f * c := by
  rw [Int.mul_comm, ← sm_mul]
  exact sm_congr fun i _ => Int.mul_comm _ _
theorem sm_neg {f : Nat → Int} : ∀ n : Nat, sm n (fun i => - f i) = - sm n f
  | 0 => rfl
  | n + 1 => by
    show sm n (fun i => - f i) + - f n = - (sm n f + f n)
    rw [sm_neg n]
    omega
theorem sm_zero : ∀ n : Nat, sm n (fun _ => 0) = 0
  | 0 => rfl
  | n + 1 => by
    show sm n (fun _ => 0) + 0 = 0
    rw [sm_zero n]
    rfl
theorem sm_swap {f : Nat → Nat → Int} (m : Nat) : ∀ n : Nat, sm n (fun i => sm m (fun j => f i j)) = sm m (fun j => sm n (fun i => f i j))
  | 0 => (sm_zero m).symm
  | n + 1 => by
    show sm n (fun i => sm m (fun j => f i j)) + sm m (fun j => f n j) = sm m (fun j => sm n (fun i => f i j) + f n j)
    rw [sm_swap m n, sm_add]
theorem sm_delta {f : Nat → Int} {i0 : Nat} : ∀ {n : Nat}, sm n (fun i => if i = i0 then f i else 0) = if i0 < n then f i0 else 0
  | 0 => by simp [sm]
  | n + 1 => by
    show sm n (fun i => if i = i0 then f i else 0) + (if n = i0 then f n else 0) = _
    rw [sm_delta]
    by_cases h1 : n = i0
    · subst h1
      simp
    · by_cases h2 : i0 < n
      · rw [if_pos h2, if_neg h1, if_pos (by omega)]
        omega
      · rw [if_neg h2, if_neg h1, if_neg (by omega)]
        rfl
/-- the remainder of the powers -/
def unitV (deg j : Nat) : List Int := (List.range deg).map fun i => if i = j then 1 else 0
def cvj (deg : Nat) (dv : List Int) (j : Nat) : Nat → List Int
  | 0 => unitV deg j
  | n + 1 => cvj deg dv j n ++ [- sm deg (fun k => dv.getD k 0 * (cvj deg dv j n).getD (n + k) 0)]
def Tz (deg : Nat) (dv : List Int) (j i : Nat) : Int := (cvj deg dv j (i + 1)).getD i 0
theorem cvj_len (deg : Nat) (dv : List Int) (j : Nat) : ∀ n, (cvj deg dv j n).length = deg + n
  | 0 => by simp [cvj, unitV]
  | n + 1 => by
    show (cvj deg dv j n ++ [_]).length = deg + (n + 1)
    rw [List.length_append, cvj_len deg dv j n]
    rfl
theorem cvj_pre (deg : Nat) (dv : List Int) (j : Nat) {i : Nat} : ∀ m n, i < deg + n → (cvj deg dv j (n + m)).getD i 0 = (cvj deg dv j n).getD i 0
  | 0, n, _ => rfl
  | m + 1, n, h => by
    show (cvj deg dv j (n + m) ++ [_]).getD i 0 = _
    rw [← cvj_pre deg dv j m n h, List.getD_eq_getElem?_getD, List.getElem?_append_left (by rw [cvj_len]; omega), ← List.getD_eq_getElem?_getD]
theorem cvj_T {deg : Nat} {dv : List Int} {j i n : Nat} (h : i < deg + n) : (cvj deg dv j n).getD i 0 = Tz deg dv j i := by
  unfold Tz
  rcases Nat.le_total n (i + 1) with z | z
  · obtain ⟨m, hm⟩ := Nat.le.dest z
    rw [← hm, cvj_pre deg dv j m n h]
  · obtain ⟨m, hm⟩ := Nat.le.dest z
    rw [← hm, cvj_pre deg dv j m (i + 1) (by omega)]
theorem T_lo {deg : Nat} {dv : List Int} {j i : Nat} (h : i < deg) : Tz deg dv j i = if i = j then 1 else 0 := by
  rw [← cvj_T (n := 0) (by omega)]
  show (unitV deg j).getD i 0 = _
  unfold unitV
  rw [List.getD_eq_getElem?_getD, List.getElem?_map, List.getElem?_range h]
  rfl
theorem T_rec (deg : Nat) (dv : List Int) (j a : Nat) : Tz deg dv j (a + deg) = - sm deg (fun k => dv.getD k 0 * Tz deg dv j (a + k)) := by
  rw [← cvj_T (n := a + 1) (by omega)]
  show (cvj deg dv j a ++ [_]).getD (a + deg) 0 = _
  rw [List.getD_eq_getElem?_getD, List.getElem?_append_right (by rw [cvj_len]; omega), cvj_len, show a + deg - (deg + a) = 0 by omega]
  show - sm deg _ = - sm deg _
  congr 1
  refine sm_congr fun k hk => ?_
  rw [cvj_T (by omega)]
/-- a sum of powers, item j of what is left of it -/
def ph (deg : Nat) (dv : List Int) (j : Nat) (xs : List Int) : Int := sm xs.length (fun i => xs.getD i 0 * Tz deg dv j i)
theorem getD_app_lt {xs : List Int} {h : Int} {i : Nat} (hi : i < xs.length) : (xs ++ [h]).getD i 0 = xs.getD i 0 := by
  rw [List.getD_eq_getElem?_getD, List.getElem?_append_left hi, ← List.getD_eq_getElem?_getD]
theorem getD_app_len {xs : List Int} {h : Int} : (xs ++ [h]).getD xs.length 0 = h := by
  rw [List.getD_eq_getElem?_getD, List.getElem?_concat_length]
  rfl
theorem ph_snoc (deg : Nat) (dv : List Int) (j : Nat) (xs : List Int) (h : Int) : ph deg dv j (xs ++ [h]) = ph deg dv j xs + h * Tz deg dv j xs.length := by
  unfold ph
  rw [List.length_append]
  show sm xs.length (fun i => (xs ++ [h]).getD i 0 * Tz deg dv j i) + (xs ++ [h]).getD xs.length 0 * Tz deg dv j xs.length = _
  rw [getD_app_len]
  congr 1
  exact sm_congr fun i hi => by rw [getD_app_lt hi]
theorem getD_set {xs : List Int} {i k : Nat} {v : Int} (hi : i < xs.length) : (xs.set i v).getD k 0 = if k = i then v else xs.getD k 0 := by
  rw [List.getD_eq_getElem?_getD, List.getElem?_set]
  by_cases h : i = k
  · subst h
    simp [hi]
  · rw [if_neg h, if_neg (fun z => h z.symm), List.getD_eq_getElem?_getD]
theorem sm_set {xs : List Int} {c : Nat → Int} {i : Nat} {v : Int} (hi : i < xs.length) : sm xs.length (fun k => (xs.set i v).getD k 0 * c k) = sm xs.length (fun k => xs.getD k 0 * c k) + (v - xs.getD i 0) * c i := by
  have e : sm xs.length (fun k => (xs.set i v).getD k 0 * c k) = sm xs.length (fun k => xs.getD k 0 * c k + if k = i then (v - xs.getD i 0) * c i else 0) := by
    refine sm_congr fun k hk => ?_
    rw [getD_set hi]
    by_cases h : k = i
    · subst h
      rw [if_pos rfl, if_pos rfl, Int.sub_mul]
      omega
    · rw [if_neg h, if_neg h]
      omega
  rw [e, sm_add, sm_delta (f := fun _ => (v - xs.getD i 0) * c i), if_pos hi]
theorem ph_set (deg : Nat) (dv : List Int) (j : Nat) {xs : List Int} {i : Nat} {v : Int} (hi : i < xs.length) : ph deg dv j (xs.set i v) = ph deg dv j xs + (v - xs.getD i 0) * Tz deg dv j i := by
  unfold ph
  rw [List.length_set]
  exact sm_set hi
theorem subN_len' (h : Int) (dv : List Int) (a : Nat) (r : List Int) : ∀ k, (subN h dv a r k).length = r.length
  | 0 => rfl
  | k + 1 => by
    show (List.set _ _ _).length = _
    rw [List.length_set, subN_len' h dv a r k]
theorem ph_sub (deg : Nat) (dv : List Int) (j : Nat) (h : Int) (n : Nat) (rest : List Int) : ∀ k, n + k ≤ rest.length → ph deg dv j (subN h dv n rest k) = ph deg dv j rest - h * sm k (fun m => dv.getD m 0 * Tz deg dv j (n + m))
  | 0, _ => by show ph deg dv j rest = ph deg dv j rest - h * 0; omega
  | k + 1, hk => by
    show ph deg dv j ((subN h dv n rest k).set (n + k) ((subN h dv n rest k).getD (n + k) 0 - h * dv.getD k 0)) = ph deg dv j rest - h * (sm k (fun m => dv.getD m 0 * Tz deg dv j (n + m)) + dv.getD k 0 * Tz deg dv j (n + k))
    rw [ph_set _ _ _ (by rw [subN_len']; omega), ph_sub deg dv j h n rest k (by omega), Int.mul_add, ← Int.mul_assoc]
    have e : (subN h dv n rest k).getD (n + k) 0 - h * dv.getD k 0 - (subN h dv n rest k).getD (n + k) 0 = -(h * dv.getD k 0) := by omega
    rw [e, Int.neg_mul]
    omega
theorem snoc_last' : ∀ (l : List Int), l ≠ [] → l.dropLast ++ [l.getLastD 0] = l := fun l h => by
  have := List.dropLast_concat_getLast h
  have e : l.getLastD 0 = l.getLast h := by
    cases l with
    | nil => exact absurd rfl h
    | cons a l => simp [List.getLastD, List.getLast?_cons]
  rw [e]
  exact this
theorem ph_low (deg : Nat) (dv : List Int) {j : Nat} {rest : List Int} (hl : rest.length ≤ deg) : ph deg dv j rest = rest.getD j 0 := by
  have e : ph deg dv j rest = sm rest.length (fun i => if i = j then rest.getD i 0 else 0) := by
    unfold ph
    refine sm_congr fun i hi => ?_
    rw [T_lo (by omega)]
    by_cases h : i = j
    · rw [if_pos h, if_pos h]; omega
    · rw [if_neg h, if_neg h]; omega
  rw [e, sm_delta]
  by_cases h : j < rest.length
  · rw [if_pos h]
  · rw [if_neg h, List.getD_eq_getElem?_getD, List.getElem?_eq_none (by omega)]
    rfl
theorem div_ph (deg : Nat) (dv : List Int) (j : Nat) : ∀ n rest quo, rest.length = deg + n → (divGo deg dv n rest quo).2.getD j 0 = ph deg dv j rest
  | 0, rest, quo, hl => by
    show rest.getD j 0 = _
    rw [ph_low deg dv (by omega)]
  | n + 1, rest, quo, hl => by
    have hne : rest ≠ [] := fun e => by rw [e] at hl; simp at hl
    have hn : rest.length - 1 - deg = n := by omega
    have hdl : rest.dropLast.length = deg + n := by rw [List.length_dropLast]; omega
    have hds : (divStep deg dv rest).length = deg + n := by
      unfold divStep
      rw [subN_len', hdl]
    show (divGo deg dv n (divStep deg dv rest) (quo ++ [rest.getLastD 0])).2.getD j 0 = _
    rw [div_ph deg dv j n _ _ hds]
    have e2 : ph deg dv j rest = ph deg dv j (rest.dropLast ++ [rest.getLastD 0]) := by rw [snoc_last' rest hne]
    rw [e2, ph_snoc]
    unfold divStep
    rw [hn, ph_sub _ _ _ _ _ _ _ (by omega), hdl, Nat.add_comm deg n, T_rec, Int.mul_neg]
    omega
theorem red_ph {xs dv : List Int} (h1 : 1 ≤ dv.length) {j : Nat} (hj : j < dv.length - 1) : (redL xs dv).getD j 0 = ph (dv.length - 1) dv j xs := by
  by_cases h2 : dv.length - 1 ≤ xs.length
  · have e := div_ph (dv.length - 1) dv j (xs.length - (dv.length - 1)) xs [] (by omega)
    rw [← e]
    have hl : (divL xs dv).2 = (divGo (dv.length - 1) dv (xs.length - (dv.length - 1)) xs []).2 := rfl
    have gl : ∀ n rest quo, rest.length = (dv.length - 1) + n → (divGo (dv.length - 1) dv n rest quo).2.length = dv.length - 1 := by
      intro n
      induction n with
      | zero => intro rest quo h; simpa [divGo] using h
      | succ n ih =>
        intro rest quo h
        unfold divGo
        refine ih _ _ ?_
        show (subN _ _ _ _ _).length = _
        rw [subN_len', List.length_dropLast]
        omega
    have g := gl (xs.length - (dv.length - 1)) xs [] (by omega)
    unfold redL
    rw [hl, List.getD_eq_getElem?_getD, List.getElem?_append_left (by omega), ← List.getD_eq_getElem?_getD]
  · have e : xs.length - (dv.length - 1) = 0 := by omega
    have hl : (divL xs dv).2 = xs := by
      unfold divL
      rw [e]
      rfl
    rw [ph_low _ _ (by omega)]
    unfold redL
    rw [hl, List.getD_eq_getElem?_getD, List.getD_eq_getElem?_getD]
    by_cases h : j < xs.length
    · rw [List.getElem?_append_left h]
    · rw [List.getElem?_append_right (by omega), List.getElem?_eq_none (by omega : xs.length ≤ j), List.getElem?_replicate]
      split <;> rfl
/-! ### turns -/
/-- a sum of powers times the turn to the power p, item j -/
def tn (deg : Nat) (dv : List Int) (p : Nat) (v : Nat → Int) (j : Nat) : Int := sm deg (fun k => v k * Tz deg dv j (p + k))
theorem strong {P : Nat → Prop} (h : ∀ n, (∀ m, m < n → P m) → P n) (n : Nat) : P n := Nat.strongRecOn n h
theorem tn_T (deg : Nat) (dv : List Int) (p : Nat) (j : Nat) (hd : 1 ≤ deg) : ∀ m, tn deg dv p (fun k => Tz deg dv k m) j = Tz deg dv j (p + m) := by
  refine strong fun m ih => ?_
  by_cases h : m < deg
  · unfold tn
    have e : sm deg (fun k => Tz deg dv k m * Tz deg dv j (p + k)) = sm deg (fun k => if k = m then Tz deg dv j (p + k) else 0) := by
      refine sm_congr fun k hk => ?_
      rw [T_lo h]
      by_cases q : m = k
      · rw [if_pos q, if_pos q.symm]; omega
      · rw [if_neg q, if_neg (fun z => q z.symm)]; omega
    rw [e, sm_delta, if_pos h]
  · obtain ⟨a, rfl⟩ : ∃ a, m = a + deg := ⟨m - deg, by omega⟩
    have e1 : p + (a + deg) = (p + a) + deg := by omega
    rw [e1, T_rec]
    have e2 : ∀ i, i < deg → dv.getD i 0 * Tz deg dv j (p + a + i) = dv.getD i 0 * tn deg dv p (fun k => Tz deg dv k (a + i)) j := fun i hi => by
      rw [ih (a + i) (by omega), Nat.add_assoc]
    rw [sm_congr e2]
    unfold tn
    have e3 : ∀ k, k < deg → Tz deg dv k (a + deg) * Tz deg dv j (p + k) = - sm deg (fun i => dv.getD i 0 * (Tz deg dv k (a + i) * Tz deg dv j (p + k))) := fun k _ => by
      rw [T_rec, Int.neg_mul, ← sm_mulR]
      congr 1
      exact sm_congr fun i _ => Int.mul_assoc _ _ _
    rw [sm_congr e3, sm_neg, sm_swap]
    congr 1
    exact sm_congr fun i _ => sm_mul _ _
theorem tn_tn (deg : Nat) (dv : List Int) (p q : Nat) (v : Nat → Int) (j : Nat) (hd : 1 ≤ deg) : tn deg dv p (tn deg dv q v) j = tn deg dv (p + q) v j := by
  show sm deg (fun k => sm deg (fun i => v i * Tz deg dv k (q + i)) * Tz deg dv j (p + k)) = sm deg (fun i => v i * Tz deg dv j (p + q + i))
  have e1 : ∀ k, k < deg → sm deg (fun i => v i * Tz deg dv k (q + i)) * Tz deg dv j (p + k) = sm deg (fun i => v i * (Tz deg dv k (q + i) * Tz deg dv j (p + k))) := fun k _ => by
    rw [← sm_mulR]
    exact sm_congr fun i _ => Int.mul_assoc _ _ _
  rw [sm_congr e1, sm_swap]
  refine sm_congr fun i _ => ?_
  rw [sm_mul]
  congr 1
  have := tn_T deg dv p j hd (q + i)
  unfold tn at this
  rw [this, Nat.add_assoc]
theorem tn_congr {deg : Nat} {dv : List Int} {p j : Nat} {v w : Nat → Int} (h : ∀ k, k < deg → v k = w k) : tn deg dv p v j = tn deg dv p w j := sm_congr fun k hk => by rw [h k hk]
theorem tn_add (deg : Nat) (dv : List Int) (p j : Nat) (v w : Nat → Int) : tn deg dv p (fun k => v k + w k) j = tn deg dv p v j + tn deg dv p w j := by
  unfold tn
  rw [← sm_add]
  exact sm_congr fun k _ => Int.add_mul _ _ _
theorem tn_mul (deg : Nat) (dv : List Int) (p j : Nat) (c : Int) (v : Nat → Int) : tn deg dv p (fun k => c * v k) j = c * tn deg dv p v j := by
  unfold tn
  rw [← sm_mul]
  exact sm_congr fun k _ => Int.mul_assoc _ _ _
theorem tn_sm (deg : Nat) (dv : List Int) (p j n : Nat) (f : Nat → Nat → Int) : tn deg dv p (fun k => sm n (fun i => f i k)) j = sm n (fun i => tn deg dv p (f i) j) := by
  unfold tn
  rw [sm_swap]
  exact sm_congr fun k _ => (sm_mulR _ _).symm
theorem tn_zero {deg : Nat} {dv : List Int} {v : Nat → Int} {j : Nat} (hj : j < deg) : tn deg dv 0 v j = v j := by
  unfold tn
  have e : sm deg (fun k => v k * Tz deg dv j (0 + k)) = sm deg (fun k => if k = j then v k else 0) := sm_congr fun k hk => by
    rw [Nat.zero_add, T_lo hk]
    by_cases h : k = j
    · rw [if_pos h, if_pos h]; omega
    · rw [if_neg h, if_neg h]; omega
  rw [e, sm_delta, if_pos hj]
/-- comes round after e steps -/
theorem T_per {deg : Nat} {dv : List Int} {j e : Nat} (hd : 1 ≤ deg) (h : ∀ i, i < deg → Tz deg dv j (i + e) = Tz deg dv j i) : ∀ i, Tz deg dv j (i + e) = Tz deg dv j i := by
  refine strong fun m ih => ?_
  by_cases hm : m < deg
  · exact h m hm
  · obtain ⟨a, rfl⟩ : ∃ a, m = a + deg := ⟨m - deg, by omega⟩
    rw [show a + deg + e = (a + e) + deg by omega, T_rec, T_rec]
    congr 1
    refine sm_congr fun k hk => ?_
    rw [show a + e + k = a + k + e by omega, ih (a + k) (by omega)]
theorem T_mod {deg : Nat} {dv : List Int} {j e : Nat} (h : ∀ i, Tz deg dv j (i + e) = Tz deg dv j i) : ∀ q i, Tz deg dv j (i + e * q) = Tz deg dv j i
  | 0, i => rfl
  | q + 1, i => by
    rw [Nat.mul_succ, ← Nat.add_assoc, h, T_mod h q i]
theorem T_eqv {deg : Nat} {dv : List Int} {j e : Nat} (h : ∀ i, Tz deg dv j (i + e) = Tz deg dv j i) {a b : Nat} (hab : a % e = b % e) : Tz deg dv j a = Tz deg dv j b := by
  have ha := Nat.mod_add_div a e
  have hb := Nat.mod_add_div b e
  rw [← ha, ← hb, T_mod h, T_mod h, hab]
end K09

/-! Numbers in their lowest terms; sums over places and their way back. -/
namespace K09
/-! ### lowest terms -/
theorem gcdI_nonneg (a b : Int) : 0 ≤ gcdI a b := Int.natCast_nonneg _
theorem gcdI_dvdL (a b : Int) : gcdI a b ∣ a := by
  unfold gcdI
  exact Int.ofNat_dvd_left.mpr (Nat.gcd_dvd_left _ _)
theorem gcdI_dvdR (a b : Int) : gcdI a b ∣ b := by
  unfold gcdI
  exact Int.ofNat_dvd_left.mpr (Nat.gcd_dvd_right _ _)
theorem gcdI_mul {c : Int} (hc : 0 ≤ c) (a b : Int) : gcdI (c * a) (c * b) = c * gcdI a b := by
  unfold gcdI
  rw [Int.natAbs_mul, Int.natAbs_mul, Nat.gcd_mul_left, Int.natCast_mul]
  have : ((c.natAbs : Nat) : Int) = c := by omega
  rw [this]
theorem gcdI_pos {a b : Int} (h : 1 ≤ a) : 1 ≤ gcdI a b := by
  unfold gcdI
  have h1 := Nat.gcd_pos_of_pos_left b.natAbs (show 0 < a.natAbs by omega)
  omega
theorem lowC_pos : ∀ (tops : List Int) (b : Int), 1 ≤ b → 1 ≤ lowC tops b
  | [], b, h => h
  | t :: ts, b, h => lowC_pos ts (gcdI b t) (gcdI_pos h)
theorem lowC_dvd : ∀ (tops : List Int) (b : Int), lowC tops b ∣ b ∧ ∀ t ∈ tops, lowC tops b ∣ t
  | [], b => ⟨Int.dvd_refl _, fun t h => absurd h (by simp)⟩
  | t :: ts, b => by
    have ih := lowC_dvd ts (gcdI b t)
    show lowC ts (gcdI b t) ∣ b ∧ _
    refine ⟨Int.dvd_trans ih.1 (gcdI_dvdL _ _), fun x hx => ?_⟩
    rcases List.mem_cons.mp hx with rfl | hx
    · exact Int.dvd_trans ih.1 (gcdI_dvdR _ _)
    · exact ih.2 x hx
theorem lowC_mul {c : Int} (hc : 0 ≤ c) : ∀ (tops : List Int) (b : Int), lowC (tops.map fun t => c * t) (c * b) = c * lowC tops b
  | [], b => rfl
  | t :: ts, b => by
    show lowC (ts.map fun t => c * t) (gcdI (c * b) (c * t)) = c * lowC ts (gcdI b t)
    rw [gcdI_mul hc, lowC_mul hc ts]
theorem lowL_mul {c : Int} (hc : 1 ≤ c) (tops : List Int) (b : Int) : lowL (tops.map fun t => c * t) (c * b) = lowL tops b := by
  unfold lowL
  rw [lowC_mul (by omega), List.map_map]
  refine Prod.ext ?_ ?_
  · refine List.map_congr_left fun t _ => ?_
    show c * t / (c * lowC tops b) = _
    exact Int.mul_ediv_mul_of_pos _ _ (by omega)
  · exact Int.mul_ediv_mul_of_pos _ _ (by omega)
theorem ext_getD {a b : List Int} (hl : a.length = b.length) (h : ∀ j, j < a.length → a.getD j 0 = b.getD j 0) : a = b := by
  refine List.ext_getElem hl fun j h1 h2 => ?_
  have := h j h1
  rw [List.getD_eq_getElem?_getD, List.getD_eq_getElem?_getD, List.getElem?_eq_getElem h1, List.getElem?_eq_getElem h2] at this
  exact this
theorem getD_map {c : Int → Int} (h0 : c 0 = 0) (a : List Int) (j : Nat) : (a.map c).getD j 0 = c (a.getD j 0) := by
  rw [List.getD_eq_getElem?_getD, List.getD_eq_getElem?_getD, List.getElem?_map]
  cases a[j]? with
  | none => exact h0.symm
  | some x => rfl
/-- equal fractions have the same lowest terms -/
theorem low_eq {v v' : List Int} {b b' : Int} (hb : 1 ≤ b) (hb' : 1 ≤ b') (hl : v.length = v'.length) (h : ∀ j, j < v.length → b' * v.getD j 0 = b * v'.getD j 0) : lowL v b = lowL v' b' := by
  rw [← lowL_mul hb' v b, ← lowL_mul hb v' b', Int.mul_comm b' b]
  congr 1
  refine ext_getD (by simp [hl]) fun j hj => ?_
  rw [List.length_map] at hj
  rw [getD_map (Int.mul_zero _), getD_map (Int.mul_zero _), h j hj]
theorem low_len (v : List Int) (b : Int) : (lowL v b).1.length = v.length := List.length_map _
theorem low_pos {v : List Int} {b : Int} (hb : 1 ≤ b) : 1 ≤ (lowL v b).2 := by
  have g := lowC_pos v b hb
  obtain ⟨c, hc⟩ := (lowC_dvd v b).1
  show 1 ≤ b / lowC v b
  have : b / lowC v b = c := by
    conv => lhs; lhs; rw [hc]
    exact Int.mul_ediv_cancel_left _ (by omega)
  rw [this]
  rcases Int.lt_or_le 0 c with z | z
  · omega
  · exfalso
    have := Int.mul_le_mul_of_nonneg_left z (show 0 ≤ lowC v b by omega)
    omega
theorem low_dvd (v : List Int) (b : Int) (hb : 1 ≤ b) : (lowL v b).2 ∣ b := by
  obtain ⟨c, hc⟩ := (lowC_dvd v b).1
  have g := lowC_pos v b hb
  have : b / lowC v b = c := by
    conv => lhs; lhs; rw [hc]
    exact Int.mul_ediv_cancel_left _ (by omega)
  show b / lowC v b ∣ b
  rw [this]
  exact ⟨lowC v b, by rw [Int.mul_comm]; exact hc⟩
theorem low_cross {v : List Int} {b : Int} (hb : 1 ≤ b) (j : Nat) : (lowL v b).2 * v.getD j 0 = b * (lowL v b).1.getD j 0 := by
  have g := lowC_pos v b hb
  have d := lowC_dvd v b
  show b / lowC v b * v.getD j 0 = b * (v.map fun t => t / lowC v b).getD j 0
  rw [getD_map (c := fun t => t / lowC v b) (Int.zero_ediv _)]
  have dt : lowC v b ∣ v.getD j 0 := by
    rw [List.getD_eq_getElem?_getD]
    by_cases h : j < v.length
    · rw [List.getElem?_eq_getElem h]
      exact d.2 _ (List.getElem_mem _)
    · rw [List.getElem?_eq_none (by omega)]
      exact Int.dvd_zero _
  obtain ⟨c, hc⟩ := d.1
  obtain ⟨t, ht⟩ := dt
  have e1 : b / lowC v b = c := by
    conv => lhs; lhs; rw [hc]
    exact Int.mul_ediv_cancel_left _ (by omega)
  have e2 : v.getD j 0 / lowC v b = t := by
    rw [ht]
    exact Int.mul_ediv_cancel_left _ (by omega)
  rw [e1, e2]
  conv => rhs; lhs; rw [hc]
  conv => lhs; rhs; rw [ht]
  rw [← Int.mul_assoc, Int.mul_comm c]
/-- lowest terms stay -/
theorem low_low {v : List Int} {b : Int} (hb : 1 ≤ b) : lowL (lowL v b).1 (lowL v b).2 = lowL v b :=
  low_eq (low_pos hb) hb (low_len v b) fun j _ => by rw [← low_cross hb]
/-! ### pairings -/
def difL (r x y : List Int) : List Int := (List.range r.length).map fun k => (x.getD k 0 - y.getD k 0) % r.getD k 0
theorem difL_get {r x y : List Int} {k : Nat} (h : k < r.length) : (difL r x y).getD k 0 = (x.getD k 0 - y.getD k 0) % r.getD k 0 := by
  unfold difL
  rw [List.getD_eq_getElem?_getD, List.getElem?_map, List.getElem?_range h]
  rfl
theorem pair_symm (r : List Int) (e : Int) (x l : List Int) : pairL r e x l = pairL r e l x := by
  have h : ∀ n, pairGo r e x l n = pairGo r e l x n := fun n => by
    induction n with
    | zero => rfl
    | succ n ih =>
      show _ + _ = _ + _
      rw [ih, Int.mul_comm (x.getD n 0)]
  unfold pairL
  rw [h]
theorem pair_dif {r : List Int} {e : Int} (x y l : List Int) (hr : ∀ k, k < r.length → e % r.getD k 0 = 0) : ∀ n, n ≤ r.length → e ∣ pairGo r e x l n - pairGo r e y l n - pairGo r e (difL r x y) l n
  | 0, _ => ⟨0, by show (0 : Int) - 0 - 0 = e * 0; omega⟩
  | n + 1, h => by
    have ih := pair_dif x y l hr n (by omega)
    show e ∣ pairGo r e x l n + x.getD n 0 * l.getD n 0 * (e / r.getD n 0) - (pairGo r e y l n + y.getD n 0 * l.getD n 0 * (e / r.getD n 0)) - (pairGo r e (difL r x y) l n + (difL r x y).getD n 0 * l.getD n 0 * (e / r.getD n 0))
    rw [difL_get (by omega)]
    generalize hm : r.getD n 0 = m
    generalize x.getD n 0 = a
    generalize y.getD n 0 = b
    generalize l.getD n 0 = c
    have hem : m * (e / m) = e := Int.mul_ediv_cancel' (Int.dvd_of_emod_eq_zero (by rw [← hm]; exact hr n (by omega)))
    have e1 : a * c * (e / m) - b * c * (e / m) - (a - b) % m * c * (e / m) = e * ((a - b) / m * c) := by
      have q : a - b = (a - b) % m + m * ((a - b) / m) := (Int.emod_add_mul_ediv _ _).symm
      have : a * c * (e / m) - b * c * (e / m) - (a - b) % m * c * (e / m) = (a - b - (a - b) % m) * c * (e / m) := by
        rw [Int.sub_mul, Int.sub_mul, Int.sub_mul, Int.sub_mul]
      rw [this]
      have : a - b - (a - b) % m = m * ((a - b) / m) := by omega
      rw [this]
      conv => rhs; lhs; rw [← hem]
      rw [Int.mul_assoc, Int.mul_assoc, Int.mul_assoc]
      congr 1
      rw [Int.mul_comm (e / m), ← Int.mul_assoc]
    obtain ⟨q, hq⟩ := ih
    refine ⟨q + (a - b) / m * c, ?_⟩
    rw [Int.mul_add, ← hq, ← e1]
    omega
theorem pair_difL {r : List Int} {e : Int} (he : 0 < e) (x y l : List Int) (hr : ∀ k, k < r.length → e % r.getD k 0 = 0) : (pairL r e x l - pairL r e y l) % e = pairL r e (difL r x y) l := by
  obtain ⟨q, hq⟩ := pair_dif x y l hr r.length (Nat.le_refl _)
  unfold pairL
  rw [← Int.sub_emod]
  have : pairGo r e x l r.length - pairGo r e y l r.length = pairGo r e (difL r x y) l r.length + e * q := by omega
  rw [this, Int.add_mul_emod_self_left]
/-! ### sums over places -/
/-- how far a place turns -/
def pw (r : List Int) (e sg : Int) (x l : List Int) : Nat := ((sg * pairL r e x l) % e).toNat
/-- the sum of vectors, each turned by its place -/
def TSf (r : List Int) (e : Int) (deg : Nat) (dv : List Int) (pl : Nat → List Int) (n : Nat) (sg : Int) (l : List Int) (W : Nat → Nat → Int) (j : Nat) : Int := sm n fun i => tn deg dv (pw r e sg (pl i) l) (W i) j
section
variable {r : List Int} {e : Int} {deg : Nat} {dv : List Int} {pl : Nat → List Int} {n : Nat}
theorem TSf_congr {sg : Int} {l : List Int} {W W' : Nat → Nat → Int} {j : Nat} (h : ∀ i, i < n → ∀ k, k < deg → W i k = W' i k) : TSf r e deg dv pl n sg l W j = TSf r e deg dv pl n sg l W' j := sm_congr fun i hi => tn_congr (h i hi)
theorem TSf_add (sg : Int) (l : List Int) (W W' : Nat → Nat → Int) (j : Nat) : TSf r e deg dv pl n sg l (fun i k => W i k + W' i k) j = TSf r e deg dv pl n sg l W j + TSf r e deg dv pl n sg l W' j := by
  unfold TSf
  rw [← sm_add]
  exact sm_congr fun i _ => tn_add _ _ _ _ _ _
theorem TSf_mul (sg : Int) (l : List Int) (c : Int) (W : Nat → Nat → Int) (j : Nat) : TSf r e deg dv pl n sg l (fun i k => c * W i k) j = c * TSf r e deg dv pl n sg l W j := by
  unfold TSf
  rw [← sm_mul]
  exact sm_congr fun i _ => tn_mul _ _ _ _ _ _
/-- what is asked of a floor's tables -/
structure Tabs (r : List Int) (e : Int) (deg : Nat) (dv : List Int) (pl : Nat → List Int) (n : Nat) : Prop where
  e0 : 0 < e
  d1 : 1 ≤ deg
  per : ∀ j, j < deg → ∀ i, Tz deg dv j (i + e.toNat) = Tz deg dv j i
  div : ∀ k, k < r.length → e % r.getD k 0 = 0
  dif : ∀ i, i < n → ∀ b, b < n → ∃ c, c < n ∧ pl c = difL r (pl i) (pl b) ∧ (c = 0 ↔ i = b)
  orth : ∀ c, c < n → ∀ j, j < deg → sm n (fun li => Tz deg dv j (pairL r e (pl c) (pl li)).toNat) = if c = 0 then (n : Int) * (if j = 0 then 1 else 0) else 0
theorem modn {a : Int} {e : Int} (he : 0 < e) : ((a % e).toNat : Int) = a % e := Int.toNat_of_nonneg (Int.emod_nonneg _ (by omega))
theorem pair_mod (he : 0 < e) (x l : List Int) : pairL r e x l % e = pairL r e x l := by
  unfold pairL
  exact Int.emod_emod_of_dvd _ (Int.dvd_refl _)
theorem inv1 (B : Tabs r e deg dv pl n) {p q : Nat → Nat} {c : Nat} (hc : c < n) (h : ∀ li, li < n → ((p li : Int) + (q li : Int)) % e = pairL r e (pl c) (pl li)) (w : Nat → Int) {j : Nat} (hj : j < deg) :
    sm n (fun li => tn deg dv (p li) (tn deg dv (q li) w) j) = if c = 0 then (n : Int) * w j else 0 := by
  have he := B.e0
  have e1 : ∀ li, li < n → tn deg dv (p li) (tn deg dv (q li) w) j = sm deg (fun k => w k * tn deg dv k (fun m => Tz deg dv m (pairL r e (pl c) (pl li)).toNat) j) := fun li hl => by
    rw [tn_tn _ _ _ _ _ _ B.d1]
    unfold tn
    refine sm_congr fun k hk => ?_
    congr 1
    have := tn_T deg dv k j B.d1 (pairL r e (pl c) (pl li)).toNat
    unfold tn at this
    rw [this]
    refine T_eqv (e := e.toNat) (B.per j hj) ?_
    have hh := h li hl
    have hx : ((pairL r e (pl c) (pl li)).toNat : Int) = pairL r e (pl c) (pl li) := by
      rw [← pair_mod he]
      exact modn he
    have g1 : (((p li + q li) % e.toNat : Nat) : Int) = (((pairL r e (pl c) (pl li)).toNat) % e.toNat : Nat) := by
      rw [Int.natCast_emod, Int.natCast_emod, Int.natCast_add, hx, show ((e.toNat : Nat) : Int) = e by omega, hh, pair_mod he]
    have g2 : (p li + q li) % e.toNat = (pairL r e (pl c) (pl li)).toNat % e.toNat := by exact_mod_cast g1
    rw [Nat.add_mod, g2, Nat.add_comm k, Nat.add_mod ((pairL r e (pl c) (pl li)).toNat)]
  rw [sm_congr e1, sm_swap]
  have e2 : ∀ k, k < deg → sm n (fun li => w k * tn deg dv k (fun m => Tz deg dv m (pairL r e (pl c) (pl li)).toNat) j) = if c = 0 then (n : Int) * (w k * Tz deg dv j k) else 0 := fun k _ => by
    rw [sm_mul, ← tn_sm deg dv k j n (fun li m => Tz deg dv m (pairL r e (pl c) (pl li)).toNat)]
    have e3 : tn deg dv k (fun m => sm n (fun li => Tz deg dv m (pairL r e (pl c) (pl li)).toNat)) j = tn deg dv k (fun m => if c = 0 then (n : Int) * (if m = 0 then 1 else 0) else 0) j := tn_congr fun m hm => B.orth c hc m hm
    rw [e3]
    by_cases h0 : c = 0
    · rw [if_pos h0]
      simp only [h0, if_true]
      rw [tn_mul]
      have : tn deg dv k (fun m => if m = 0 then 1 else 0) j = Tz deg dv j k := by
        unfold tn
        have : ∀ m, m < deg → (if m = 0 then 1 else 0) * Tz deg dv j (k + m) = if m = 0 then Tz deg dv j (k + m) else 0 := fun m _ => by
          by_cases z : m = 0
          · rw [if_pos z, if_pos z]; omega
          · rw [if_neg z, if_neg z]; omega
        rw [sm_congr this, sm_delta, if_pos (by have := B.d1; omega)]
        rfl
      rw [this, ← Int.mul_assoc, Int.mul_comm (w k), Int.mul_assoc]
    · rw [if_neg h0]
      simp only [h0, if_false]
      have : tn deg dv k (fun _ => 0) j = 0 := by
        unfold tn
        have : ∀ m, m < deg → (0 : Int) * Tz deg dv j (k + m) = 0 := fun m _ => Int.zero_mul _
        rw [sm_congr this, sm_zero]
      rw [this, Int.mul_zero]
  rw [sm_congr e2]
  by_cases h0 : c = 0
  · simp only [h0, if_true]
    rw [sm_mul]
    congr 1
    have : ∀ k, k < deg → w k * Tz deg dv j k = if k = j then w k else 0 := fun k hk => by
      rw [T_lo hk]
      by_cases z : k = j
      · rw [if_pos z, if_pos z]; omega
      · rw [if_neg z, if_neg z]; omega
    rw [sm_congr this, sm_delta, if_pos hj]
  · simp only [h0, if_false]
    exact sm_zero _
theorem pw_cast (he : 0 < e) (sg : Int) (x l : List Int) : ((pw r e sg x l : Nat) : Int) = (sg * pairL r e x l) % e := modn he
/-- there and back -/
theorem inv_ts (B : Tabs r e deg dv pl n) {s : Int} (hs : s = 1 ∨ s = -1) {b : Nat} (hb : b < n) (W : Nat → Nat → Int) {j : Nat} (hj : j < deg) :
    TSf r e deg dv pl n s (pl b) (fun li => TSf r e deg dv pl n (-s) (pl li) W) j = (n : Int) * W b j := by
  have he := B.e0
  unfold TSf
  have e1 : ∀ li, li < n → tn deg dv (pw r e s (pl li) (pl b)) (fun k => sm n fun i => tn deg dv (pw r e (-s) (pl i) (pl li)) (W i) k) j = sm n (fun i => tn deg dv (pw r e s (pl li) (pl b)) (tn deg dv (pw r e (-s) (pl i) (pl li)) (W i)) j) := fun li _ => tn_sm _ _ _ _ _ _
  show sm n (fun li => tn deg dv (pw r e s (pl li) (pl b)) (fun k => sm n fun i => tn deg dv (pw r e (-s) (pl i) (pl li)) (W i) k) j) = _
  rw [sm_congr e1, sm_swap]
  have e2 : ∀ i, i < n → sm n (fun li => tn deg dv (pw r e s (pl li) (pl b)) (tn deg dv (pw r e (-s) (pl i) (pl li)) (W i)) j) = if i = b then (n : Int) * W i j else 0 := fun i hi => by
    rcases hs with rfl | rfl
    · obtain ⟨c, hc, ec, iff⟩ := B.dif b hb i hi
      rw [inv1 B hc (fun li hl => ?_) (W i) hj]
      · by_cases h0 : c = 0
        · rw [if_pos h0, if_pos (iff.mp h0).symm]
        · rw [if_neg h0, if_neg (fun z => h0 (iff.mpr z.symm))]
      · rw [pw_cast he, pw_cast he, ec, ← pair_difL he _ _ _ B.div, pair_symm r e (pl li), ← Int.add_emod]
        congr 1
        omega
    · obtain ⟨c, hc, ec, iff⟩ := B.dif i hi b hb
      rw [inv1 B hc (fun li hl => ?_) (W i) hj]
      · by_cases h0 : c = 0
        · rw [if_pos h0, if_pos (iff.mp h0)]
        · rw [if_neg h0, if_neg (fun z => h0 (iff.mpr z))]
      · rw [pw_cast he, pw_cast he, ec, ← pair_difL he _ _ _ B.div, pair_symm r e (pl li), ← Int.add_emod]
        congr 1
        omega
  rw [sm_congr e2, sm_delta (f := fun i => (n : Int) * W i j), if_pos hb]
end
end K09

/-! Tables of the orders: what is left of the powers; that they come round; sums over all labels. -/
namespace K09
def tabs : List (Int × List Int × List (List Int)) := [(2, [1, 1], [[1, -1, 1]]),
  (3, [1, 1, 1], [[1, 0, -1, 1, 0], [0, 1, -1, 0, 1]]),
  (4, [1, 0, 1], [[1, 0, -1, 0, 1, 0], [0, 1, 0, -1, 0, 1]]),
  (5, [1, 1, 1, 1, 1], [[1, 0, 0, 0, -1, 1, 0, 0, 0], [0, 1, 0, 0, -1, 0, 1, 0, 0], [0, 0, 1, 0, -1, 0, 0, 1, 0], [0, 0, 0, 1, -1, 0, 0, 0, 1]]),
  (6, [1, -1, 1], [[1, 0, -1, -1, 0, 1, 1, 0], [0, 1, 1, 0, -1, -1, 0, 1]]),
  (7, [1, 1, 1, 1, 1, 1, 1], [[1, 0, 0, 0, 0, 0, -1, 1, 0, 0, 0, 0, 0], [0, 1, 0, 0, 0, 0, -1, 0, 1, 0, 0, 0, 0], [0, 0, 1, 0, 0, 0, -1, 0, 0, 1, 0, 0, 0], [0, 0, 0, 1, 0, 0, -1, 0, 0, 0, 1, 0, 0], [0, 0, 0, 0, 1, 0, -1, 0, 0, 0, 0, 1, 0], [0, 0, 0, 0, 0, 1, -1, 0, 0, 0, 0, 0, 1]]),
  (8, [1, 0, 0, 0, 1], [[1, 0, 0, 0, -1, 0, 0, 0, 1, 0, 0, 0], [0, 1, 0, 0, 0, -1, 0, 0, 0, 1, 0, 0], [0, 0, 1, 0, 0, 0, -1, 0, 0, 0, 1, 0], [0, 0, 0, 1, 0, 0, 0, -1, 0, 0, 0, 1]]),
  (9, [1, 0, 0, 1, 0, 0, 1], [[1, 0, 0, 0, 0, 0, -1, 0, 0, 1, 0, 0, 0, 0, 0], [0, 1, 0, 0, 0, 0, 0, -1, 0, 0, 1, 0, 0, 0, 0], [0, 0, 1, 0, 0, 0, 0, 0, -1, 0, 0, 1, 0, 0, 0], [0, 0, 0, 1, 0, 0, -1, 0, 0, 0, 0, 0, 1, 0, 0], [0, 0, 0, 0, 1, 0, 0, -1, 0, 0, 0, 0, 0, 1, 0], [0, 0, 0, 0, 0, 1, 0, 0, -1, 0, 0, 0, 0, 0, 1]]),
  (10, [1, -1, 1, -1, 1], [[1, 0, 0, 0, -1, -1, 0, 0, 0, 1, 1, 0, 0, 0], [0, 1, 0, 0, 1, 0, -1, 0, 0, -1, 0, 1, 0, 0], [0, 0, 1, 0, -1, 0, 0, -1, 0, 1, 0, 0, 1, 0], [0, 0, 0, 1, 1, 0, 0, 0, -1, -1, 0, 0, 0, 1]]),
  (12, [1, 0, -1, 0, 1], [[1, 0, 0, 0, -1, 0, -1, 0, 0, 0, 1, 0, 1, 0, 0, 0], [0, 1, 0, 0, 0, -1, 0, -1, 0, 0, 0, 1, 0, 1, 0, 0], [0, 0, 1, 0, 1, 0, 0, 0, -1, 0, -1, 0, 0, 0, 1, 0], [0, 0, 0, 1, 0, 1, 0, 0, 0, -1, 0, -1, 0, 0, 0, 1]]),
  (16, [1, 0, 0, 0, 0, 0, 0, 0, 1], [[1, 0, 0, 0, 0, 0, 0, 0, -1, 0, 0, 0, 0, 0, 0, 0, 1, 0, 0, 0, 0, 0, 0, 0], [0, 1, 0, 0, 0, 0, 0, 0, 0, -1, 0, 0, 0, 0, 0, 0, 0, 1, 0, 0, 0, 0, 0, 0], [0, 0, 1, 0, 0, 0, 0, 0, 0, 0, -1, 0, 0, 0, 0, 0, 0, 0, 1, 0, 0, 0, 0, 0], [0, 0, 0, 1, 0, 0, 0, 0, 0, 0, 0, -1, 0, 0, 0, 0, 0, 0, 0, 1, 0, 0, 0, 0], [0, 0, 0, 0, 1, 0, 0, 0, 0, 0, 0, 0, -1, 0, 0, 0, 0, 0, 0, 0, 1, 0, 0, 0], [0, 0, 0, 0, 0, 1, 0, 0, 0, 0, 0, 0, 0, -1, 0, 0, 0, 0, 0, 0, 0, 1, 0, 0], [0, 0, 0, 0, 0, 0, 1, 0, 0, 0, 0, 0, 0, 0, -1, 0, 0, 0, 0, 0, 0, 0, 1, 0], [0, 0, 0, 0, 0, 0, 0, 1, 0, 0, 0, 0, 0, 0, 0, -1, 0, 0, 0, 0, 0, 0, 0, 1]]),
  (15, [1, -1, 0, 1, -1, 1, 0, -1, 1], [[1, 0, 0, 0, 0, 0, 0, 0, -1, -1, -1, 0, 0, 1, 1, 1, 0, 0, 0, 0, 0, 0, 0], [0, 1, 0, 0, 0, 0, 0, 0, 1, 0, 0, -1, 0, -1, 0, 0, 1, 0, 0, 0, 0, 0, 0], [0, 0, 1, 0, 0, 0, 0, 0, 0, 1, 0, 0, -1, 0, -1, 0, 0, 1, 0, 0, 0, 0, 0], [0, 0, 0, 1, 0, 0, 0, 0, -1, -1, 0, 0, 0, 0, 1, 0, 0, 0, 1, 0, 0, 0, 0], [0, 0, 0, 0, 1, 0, 0, 0, 1, 0, 0, 0, 0, -1, -1, 0, 0, 0, 0, 1, 0, 0, 0], [0, 0, 0, 0, 0, 1, 0, 0, -1, 0, -1, 0, 0, 1, 0, 0, 0, 0, 0, 0, 1, 0, 0], [0, 0, 0, 0, 0, 0, 1, 0, 0, -1, 0, -1, 0, 0, 1, 0, 0, 0, 0, 0, 0, 1, 0], [0, 0, 0, 0, 0, 0, 0, 1, 1, 1, 0, 0, -1, -1, -1, 0, 0, 0, 0, 0, 0, 0, 1]]),
  (13, [1, 1, 1, 1, 1, 1, 1, 1, 1, 1, 1, 1, 1], [[1, 0, 0, 0, 0, 0, 0, 0, 0, 0, 0, 0, -1, 1, 0, 0, 0, 0, 0, 0, 0, 0, 0, 0, 0], [0, 1, 0, 0, 0, 0, 0, 0, 0, 0, 0, 0, -1, 0, 1, 0, 0, 0, 0, 0, 0, 0, 0, 0, 0], [0, 0, 1, 0, 0, 0, 0, 0, 0, 0, 0, 0, -1, 0, 0, 1, 0, 0, 0, 0, 0, 0, 0, 0, 0], [0, 0, 0, 1, 0, 0, 0, 0, 0, 0, 0, 0, -1, 0, 0, 0, 1, 0, 0, 0, 0, 0, 0, 0, 0], [0, 0, 0, 0, 1, 0, 0, 0, 0, 0, 0, 0, -1, 0, 0, 0, 0, 1, 0, 0, 0, 0, 0, 0, 0], [0, 0, 0, 0, 0, 1, 0, 0, 0, 0, 0, 0, -1, 0, 0, 0, 0, 0, 1, 0, 0, 0, 0, 0, 0], [0, 0, 0, 0, 0, 0, 1, 0, 0, 0, 0, 0, -1, 0, 0, 0, 0, 0, 0, 1, 0, 0, 0, 0, 0], [0, 0, 0, 0, 0, 0, 0, 1, 0, 0, 0, 0, -1, 0, 0, 0, 0, 0, 0, 0, 1, 0, 0, 0, 0], [0, 0, 0, 0, 0, 0, 0, 0, 1, 0, 0, 0, -1, 0, 0, 0, 0, 0, 0, 0, 0, 1, 0, 0, 0], [0, 0, 0, 0, 0, 0, 0, 0, 0, 1, 0, 0, -1, 0, 0, 0, 0, 0, 0, 0, 0, 0, 1, 0, 0], [0, 0, 0, 0, 0, 0, 0, 0, 0, 0, 1, 0, -1, 0, 0, 0, 0, 0, 0, 0, 0, 0, 0, 1, 0], [0, 0, 0, 0, 0, 0, 0, 0, 0, 0, 0, 1, -1, 0, 0, 0, 0, 0, 0, 0, 0, 0, 0, 0, 1]])]
theorem tabs_ok : ∀ t ∈ tabs, polyL t.1 = t.2.1 ∧ t.2.2 = (List.range (t.2.1.length - 1)).map (fun j => cvj (t.2.1.length - 1) t.2.1 j t.1.toNat) := by decide +kernel
theorem er_tab : ∀ e ∈ ER, ∃ t ∈ tabs, t.1 = e := by decide +kernel
theorem tab_sm : ∀ t ∈ tabs, 2 ≤ t.1 ∧ 2 ≤ t.2.1.length ∧ t.2.1.length - 1 = (unitsL t.1).length ∧ t.2.1.length ≤ t.1.toNat ∧ t.2.1.getD (t.2.1.length - 1) 0 = 1 ∧ (∀ col ∈ t.2.2, ∀ i ∈ List.range (t.2.1.length - 1), col.getD (i + t.1.toNat) 0 = col.getD i 0) := by decide +kernel
def orthB (r : List Int) (e : Int) (cols : List (List Int)) : Bool :=
  (List.range (placesL r).length).all fun c => (List.range cols.length).all fun j =>
    decide (sm (placesL r).length (fun li => (cols.getD j []).getD (pairL r e ((placesL r).getD c []) ((placesL r).getD li [])).toNat 0) = if c = 0 then ((placesL r).length : Int) * (if j = 0 then 1 else 0) else 0)
theorem orth_ok : ∀ r ∈ RR, ∀ t ∈ tabs, ordL r = t.1 → orthB r t.1 t.2.2 = true := by decide +kernel
def idx (r x : List Int) : Nat := (placesL r).findIdx fun y => decide (y = x)
def difB (r : List Int) : Bool :=
  (List.range (placesL r).length).all fun i => (List.range (placesL r).length).all fun b =>
    decide ((placesL r)[idx r (difL r ((placesL r).getD i []) ((placesL r).getD b []))]? = some (difL r ((placesL r).getD i []) ((placesL r).getD b [])) ∧ (idx r (difL r ((placesL r).getD i []) ((placesL r).getD b [])) = 0 ↔ i = b))
theorem dif_ok : ∀ r ∈ RR, difB r = true := by decide +kernel
theorem div_ok : ∀ r ∈ RR, ∀ k ∈ List.range r.length, ordL r % r.getD k 0 = 0 := by decide +kernel
theorem ord_er : ∀ r ∈ RR, ordL r ∈ ER := by decide +kernel
theorem org_ok : ∀ r ∈ RR, ∀ x ∈ placesL r, pairL r (ordL r) x ((placesL r).getD 0 []) = 0 := by decide +kernel
theorem tab_col {t : Int × List Int × List (List Int)} (ht : t ∈ tabs) {j : Nat} (hj : j < t.2.1.length - 1) {i : Nat} (hi : i < t.2.1.length - 1 + t.1.toNat) : (t.2.2.getD j []).getD i 0 = Tz (t.2.1.length - 1) t.2.1 j i := by
  rw [(tabs_ok t ht).2]
  have : ((List.range (t.2.1.length - 1)).map (fun j => cvj (t.2.1.length - 1) t.2.1 j t.1.toNat)).getD j [] = cvj (t.2.1.length - 1) t.2.1 j t.1.toNat := by
    rw [List.getD_eq_getElem?_getD, List.getElem?_map, List.getElem?_range hj]
    rfl
  rw [this, cvj_T hi]
/-- the degree of a floor's order -/
abbrev dg (r : List Int) : Nat := (polyL (ordL r)).length - 1
theorem tabs_of {r : List Int} (h : r ∈ RR) : Tabs r (ordL r) (dg r) (polyL (ordL r)) (fun i => (placesL r).getD i []) (placesL r).length := by
  obtain ⟨t, ht, te⟩ := er_tab _ (ord_er r h)
  have ok := tabs_ok t ht
  have sml := tab_sm t ht
  have ep : polyL (ordL r) = t.2.1 := by rw [← te]; exact ok.1
  have lc : t.2.2.length = t.2.1.length - 1 := by
    rw [ok.2]
    simp
  refine ⟨by omega, ?_, ?_, fun k hk => div_ok r h k (List.mem_range.mpr hk), ?_, ?_⟩
  · show 1 ≤ (polyL (ordL r)).length - 1
    rw [ep]
    omega
  · show ∀ j, j < (polyL (ordL r)).length - 1 → ∀ i, Tz ((polyL (ordL r)).length - 1) (polyL (ordL r)) j (i + (ordL r).toNat) = Tz ((polyL (ordL r)).length - 1) (polyL (ordL r)) j i
    rw [ep]
    intro j hj
    refine T_per (by omega) fun i hi => ?_
    rw [← te, ← tab_col ht hj (by omega), ← tab_col ht hj (by omega)]
    refine sml.2.2.2.2.2 _ ?_ i (List.mem_range.mpr hi)
    rw [List.getD_eq_getElem?_getD, List.getElem?_eq_getElem (by omega)]
    exact List.getElem_mem _
  · intro i hi b hb
    have := dif_ok r h
    unfold difB at this
    rw [List.all_eq_true] at this
    have := this i (List.mem_range.mpr hi)
    rw [List.all_eq_true] at this
    have := of_decide_eq_true (this b (List.mem_range.mpr hb))
    refine ⟨_, (List.getElem?_eq_some_iff.mp this.1).1, ?_, this.2⟩
    show (placesL r).getD _ [] = _
    rw [List.getD_eq_getElem?_getD, this.1]
    rfl
  · show ∀ c, c < (placesL r).length → ∀ j, j < (polyL (ordL r)).length - 1 → sm (placesL r).length (fun li => Tz ((polyL (ordL r)).length - 1) (polyL (ordL r)) j (pairL r (ordL r) ((placesL r).getD c []) ((placesL r).getD li [])).toNat) = _
    rw [ep]
    intro c hc j hj
    have := orth_ok r h t ht te.symm
    unfold orthB at this
    rw [List.all_eq_true] at this
    have := this c (List.mem_range.mpr hc)
    rw [List.all_eq_true] at this
    have := of_decide_eq_true (this j (List.mem_range.mpr (by omega)))
    rw [← this]
    refine sm_congr fun li _ => ?_
    have pb : (pairL r t.1 ((placesL r).getD c []) ((placesL r).getD li [])).toNat < t.1.toNat := by
      have h0 := Int.emod_nonneg (pairGo r t.1 ((placesL r).getD c []) ((placesL r).getD li []) r.length) (show t.1 ≠ 0 by omega)
      have h1 := Int.emod_lt_of_pos (pairGo r t.1 ((placesL r).getD c []) ((placesL r).getD li []) r.length) (show 0 < t.1 by omega)
      unfold pairL
      omega
    rw [← te, tab_col ht hj (by omega)]
end K09

/-! Rows and their voices as fractions of vectors. -/
namespace K09
/-! ### sums of turns, item by item -/
def dotc (c : Nat → Int) (xs : List Int) : Int := sm xs.length (fun k => xs.getD k 0 * c k)
theorem dotc_step {c : Nat → Int} {e : Int} (he : 0 < e) {tot : List Int} (hl : tot.length = e.toNat) (j v : Int) : dotc c (stepT e tot j v) = dotc c tot + v * c (j % e).toNat := by
  have h0 := Int.emod_nonneg j (show e ≠ 0 by omega)
  have h1 := Int.emod_lt_of_pos j he
  unfold dotc stepT
  rw [List.length_set, sm_set (by omega)]
  congr 2
  omega
theorem addN_len' (e p : Int) (tops tot : List Int) : ∀ k, (addN e p tops tot k).length = tot.length
  | 0 => rfl
  | k + 1 => by
    show (List.set _ _ _).length = tot.length
    rw [List.length_set, addN_len' e p tops tot k]
theorem dotc_add {c : Nat → Int} {e : Int} (he : 0 < e) {tot : List Int} (hl : tot.length = e.toNat) (p : Int) (tops : List Int) : ∀ k, dotc c (addN e p tops tot k) = dotc c tot + sm k (fun m => tops.getD m 0 * c ((p + (m : Int)) % e).toNat)
  | 0 => by show dotc c tot = dotc c tot + 0; omega
  | k + 1 => by
    show dotc c (stepT e (addN e p tops tot k) (p + (k : Int)) (tops.getD k 0)) = dotc c tot + (sm k (fun m => tops.getD m 0 * c ((p + (m : Int)) % e).toNat) + tops.getD k 0 * c ((p + (k : Int)) % e).toNat)
    rw [dotc_step he (by rw [addN_len', hl]), dotc_add he hl p tops k]
    omega
theorem tsGo_len' (r : List Int) (e sg : Int) (label : List Int) (items : List (List Int)) : ∀ i, (tsGo r e sg label items i).length = e.toNat
  | 0 => by simp [tsGo]
  | i + 1 => by
    show (addN _ _ _ _ _).length = _
    rw [addN_len', tsGo_len' r e sg label items i]
theorem dotc_zero (c : Nat → Int) (n : Nat) : dotc c (List.replicate n 0) = 0 := by
  unfold dotc
  have : ∀ k, k < (List.replicate n (0 : Int)).length → (List.replicate n (0 : Int)).getD k 0 * c k = 0 := fun k _ => by
    rw [List.getD_eq_getElem?_getD, List.getElem?_replicate]
    split <;> exact Int.zero_mul _
  rw [sm_congr this, sm_zero]
theorem dotc_ts {c : Nat → Int} (r : List Int) {e : Int} (he : 0 < e) (sg : Int) (l : List Int) (items : List (List Int)) : ∀ i, dotc c (tsGo r e sg l items i) = sm i (fun a => sm (items.getD a []).length (fun m => (items.getD a []).getD m 0 * c ((sg * pairL r e ((placesL r).getD a []) l + (m : Int)) % e).toNat))
  | 0 => dotc_zero _ _
  | i + 1 => by
    show dotc c (addN e (sg * pairL r e ((placesL r).getD i []) l) (items.getD i []) (tsGo r e sg l items i) (items.getD i []).length) = sm i _ + _
    rw [dotc_add he (tsGo_len' _ _ _ _ _ _), dotc_ts r he sg l items i]
/-- the items of vectors -/
abbrev wv (items : List (List Int)) (i k : Nat) : Int := (items.getD i []).getD k 0
abbrev pl (r : List Int) (i : Nat) : List Int := (placesL r).getD i []
abbrev Tq (r : List Int) (sg : Int) (l : List Int) (W : Nat → Nat → Int) (j : Nat) : Int := TSf r (ordL r) (dg r) (polyL (ordL r)) (fun i => (placesL r).getD i []) (placesL r).length sg l W j
theorem poly_len {r : List Int} (h : r ∈ RR) : 2 ≤ (polyL (ordL r)).length ∧ dg r = (unitsL (ordL r)).length ∧ (polyL (ordL r)).length ≤ (ordL r).toNat := by
  obtain ⟨t, ht, te⟩ := er_tab _ (ord_er r h)
  have ok := tabs_ok t ht
  have sml := tab_sm t ht
  have ep : polyL (ordL r) = t.2.1 := by rw [← te]; exact ok.1
  show 2 ≤ (polyL (ordL r)).length ∧ (polyL (ordL r)).length - 1 = _ ∧ _
  rw [ep, ← te]
  exact ⟨sml.2.1, sml.2.2.1, sml.2.2.2.1⟩
theorem redL_len' {xs dv : List Int} (h : 1 ≤ dv.length) : (redL xs dv).length = dv.length - 1 := by
  have gl : ∀ n rest quo, rest.length = (dv.length - 1) + n → (divGo (dv.length - 1) dv n rest quo).2.length = dv.length - 1 := by
    intro n
    induction n with
    | zero => intro rest quo h; simpa [divGo] using h
    | succ n ih =>
      intro rest quo h
      unfold divGo
      refine ih _ _ ?_
      show (subN _ _ _ _ _).length = _
      rw [subN_len', List.length_dropLast]
      omega
  have hl : (divL xs dv).2.length ≤ dv.length - 1 := by
    by_cases h2 : dv.length - 1 ≤ xs.length
    · have := gl (xs.length - (dv.length - 1)) xs [] (by omega)
      show (divGo (dv.length - 1) dv (xs.length - (dv.length - 1)) xs []).2.length ≤ _
      omega
    · have e : xs.length - (dv.length - 1) = 0 := by omega
      unfold divL
      rw [e]
      show xs.length ≤ _
      omega
  unfold redL
  rw [List.length_append, List.length_replicate]
  omega
theorem tsL_len' {r : List Int} (h : r ∈ RR) (sg : Int) (l : List Int) (items : List (List Int)) : (tsL r sg l items).length = dg r := redL_len' (by have := poly_len h; omega)
theorem tsL_co {r : List Int} (h : r ∈ RR) (sg : Int) (l : List Int) {items : List (List Int)} (hn : items.length = (placesL r).length) (hi : ∀ t ∈ items, t.length = dg r) {j : Nat} (hj : j < dg r) : (tsL r sg l items).getD j 0 = Tq r sg l (wv items) j := by
  have B := tabs_of h
  have he := B.e0
  unfold tsL
  rw [red_ph (by have := poly_len h; omega) hj]
  show dotc (Tz (dg r) (polyL (ordL r)) j) _ = _
  rw [dotc_ts r he, hn]
  refine sm_congr fun a ha => ?_
  have la : (items.getD a []).length = dg r := by
    rw [List.getD_eq_getElem?_getD, List.getElem?_eq_getElem (by omega)]
    exact hi _ (List.getElem_mem _)
  rw [la]
  refine sm_congr fun m hm => ?_
  show _ * Tz (dg r) (polyL (ordL r)) j _ = _ * Tz (dg r) (polyL (ordL r)) j _
  congr 1
  refine T_eqv (e := (ordL r).toNat) (B.per j hj) ?_
  have h1 : ((ordL r).toNat : Int) = ordL r := by omega
  have g : ((((sg * pairL r (ordL r) ((placesL r).getD a []) l + (m : Int)) % ordL r).toNat % (ordL r).toNat : Nat) : Int) = ((pw r (ordL r) sg ((placesL r).getD a []) l + m) % (ordL r).toNat : Nat) := by
    rw [Int.natCast_emod, Int.natCast_emod, Int.natCast_add, pw_cast he, h1, modn he, Int.emod_emod_of_dvd _ (Int.dvd_refl _), Int.emod_add_emod]
  exact_mod_cast g
/-! ### fractions of vectors -/
/-- a number is the vector w over M -/
def Rp (d : Nat) (n : Num) (M : Int) (w : Nat → Int) : Prop := ∀ k, k < d → n.2 * w k = M * n.1.getD k 0
structure NumC (d : Nat) (n : Num) : Prop where
  len : n.1.length = d
  pos : 1 ≤ n.2
  low : lowL n.1 n.2 = n
theorem icancel {a b c : Int} (h : 1 ≤ c) (e : c * a = c * b) : a = b := Int.eq_of_mul_eq_mul_left (by omega) e
theorem Rp_of_low {d : Nat} {v : List Int} {b M : Int} {w : Nat → Int} (hb : 1 ≤ b) (h : ∀ k, k < d → b * w k = M * v.getD k 0) : Rp d (lowL v b) M w := fun k hk => by
  refine icancel hb ?_
  have c := low_cross (v := v) hb k
  have e1 : b * ((lowL v b).2 * w k) = (lowL v b).2 * (b * w k) := by rw [← Int.mul_assoc, Int.mul_comm b, Int.mul_assoc]
  rw [e1, h k hk, ← Int.mul_assoc, Int.mul_comm _ M, Int.mul_assoc, c, ← Int.mul_assoc, ← Int.mul_assoc, Int.mul_comm M]
theorem numC_low {d : Nat} {v : List Int} {b : Int} (hb : 1 ≤ b) (hl : v.length = d) : NumC d (lowL v b) := ⟨by rw [low_len, hl], low_pos hb, low_low hb⟩
theorem Rp_eq {d : Nat} {a b : Num} {M : Int} {w : Nat → Int} (hM : 1 ≤ M) (ha : NumC d a) (hb : NumC d b) (ra : Rp d a M w) (rb : Rp d b M w) : a = b := by
  rw [← ha.low, ← hb.low]
  refine low_eq ha.pos hb.pos (by rw [ha.len, hb.len]) fun j hj => ?_
  rw [ha.len] at hj
  refine icancel hM ?_
  have e1 := ra j hj
  have e2 := rb j hj
  have c1 : M * (b.2 * a.1.getD j 0) = b.2 * (M * a.1.getD j 0) := by rw [← Int.mul_assoc, Int.mul_comm M, Int.mul_assoc]
  have c2 : M * (a.2 * b.1.getD j 0) = a.2 * (M * b.1.getD j 0) := by rw [← Int.mul_assoc, Int.mul_comm M, Int.mul_assoc]
  rw [c1, c2, ← e1, ← e2, ← Int.mul_assoc, ← Int.mul_assoc, Int.mul_comm a.2]
theorem Rp_congr {d : Nat} {n : Num} {M : Int} {w w' : Nat → Int} (h : ∀ k, k < d → w k = w' k) (r : Rp d n M w) : Rp d n M w' := fun k hk => by rw [← h k hk, r k hk]
theorem Rp_mul {d : Nat} {n : Num} {M : Int} {w : Nat → Int} (c : Int) (r : Rp d n M w) : Rp d n (M * c) (fun k => c * w k) := fun k hk => by
  rw [← Int.mul_assoc, Int.mul_comm n.2, Int.mul_assoc, r k hk, ← Int.mul_assoc, Int.mul_comm c]
theorem Rp_self (d : Nat) (n : Num) : Rp d n n.2 (fun k => n.1.getD k 0) := fun _ _ => rfl
theorem sumT_get {a b : Num} {sg : Int} {k : Nat} (h : k < a.1.length) : (sumT a b sg).getD k 0 = a.1.getD k 0 * b.2 + sg * b.1.getD k 0 * a.2 := by
  unfold sumT
  rw [List.getD_eq_getElem?_getD, List.getElem?_map, List.getElem?_range h]
  rfl
theorem sumT_len (a b : Num) (sg : Int) : (sumT a b sg).length = a.1.length := by simp [sumT]
theorem numC_sum {d : Nat} {a b : Num} (ha : NumC d a) (hb : NumC d b) (sg : Int) : NumC d (sumN a b sg) := numC_low (by have := Int.mul_le_mul ha.pos hb.pos (by omega) (by have := ha.pos; omega); omega) (by rw [sumT_len, ha.len])
theorem mul1 {a b : Int} (ha : 1 ≤ a) (hb : 1 ≤ b) : 1 ≤ a * b := by
  have := Int.mul_le_mul ha hb (by omega) (by omega)
  omega
theorem Rp_sum {d : Nat} {a b : Num} {M N : Int} {u v : Nat → Int} (ha : NumC d a) (hb : NumC d b) (ra : Rp d a M u) (rb : Rp d b N v) : Rp d (sumN a b 1) (M * N) (fun k => N * u k + M * v k) := by
  refine Rp_of_low (mul1 ha.pos hb.pos) fun k hk => ?_
  rw [sumT_get (by rw [ha.len]; exact hk)]
  have e1 := ra k hk
  have e2 := rb k hk
  generalize a.1.getD k 0 = x at e1 ⊢
  generalize b.1.getD k 0 = y at e2 ⊢
  generalize u k = U at e1 ⊢
  generalize v k = V at e2 ⊢
  generalize a.2 = A at e1 ⊢
  generalize b.2 = B at e2 ⊢
  rw [Int.mul_add, Int.mul_add, Int.one_mul]
  have f1 : A * B * (N * U) = M * N * (x * B) := by
    have : A * B * (N * U) = B * N * (A * U) := by ac_rfl
    rw [this, e1]
    ac_rfl
  have f2 : A * B * (M * V) = M * N * (y * A) := by
    have : A * B * (M * V) = A * M * (B * V) := by ac_rfl
    rw [this, e2]
    ac_rfl
  rw [f1, f2]
/-! ### products -/
def mv (r : List Int) (a : List Int) (v : Nat → Int) (j : Nat) : Int := sm (dg r) (fun i => a.getD i 0 * tn (dg r) (polyL (ordL r)) i v j)
theorem mulR_len' (one : Int) (i : Nat) (others tot : List Int) : ∀ k, (mulR one i others tot k).length = tot.length
  | 0 => rfl
  | k + 1 => by
    show (List.set _ _ _).length = _
    rw [List.length_set, mulR_len' one i others tot k]
theorem mulGo_len' (ones others : List Int) : ∀ i, (mulGo ones others i).length = ones.length + others.length - 1
  | 0 => by simp [mulGo]
  | i + 1 => by
    show (mulR _ _ _ _ _).length = _
    rw [mulR_len', mulGo_len' ones others i]
theorem dotc_mulR {c : Nat → Int} (one : Int) (i : Nat) (others tot : List Int) : ∀ k, i + k ≤ tot.length → dotc c (mulR one i others tot k) = dotc c tot + sm k (fun m => one * others.getD m 0 * c (i + m))
  | 0, _ => by show dotc c tot = dotc c tot + 0; omega
  | k + 1, h => by
    have ih := dotc_mulR (c := c) one i others tot k (by omega)
    show dotc c ((mulR one i others tot k).set (i + k) ((mulR one i others tot k).getD (i + k) 0 + one * others.getD k 0)) = dotc c tot + (sm k (fun m => one * others.getD m 0 * c (i + m)) + one * others.getD k 0 * c (i + k))
    have st : dotc c ((mulR one i others tot k).set (i + k) ((mulR one i others tot k).getD (i + k) 0 + one * others.getD k 0)) = dotc c (mulR one i others tot k) + one * others.getD k 0 * c (i + k) := by
      unfold dotc
      rw [List.length_set, sm_set (by rw [mulR_len']; omega)]
      congr 2
      omega
    rw [st, ih]
    omega
theorem dotc_mulGo {c : Nat → Int} (ones others : List Int) : ∀ i, i ≤ ones.length → dotc c (mulGo ones others i) = sm i (fun a => sm others.length (fun m => ones.getD a 0 * others.getD m 0 * c (a + m)))
  | 0, _ => dotc_zero _ _
  | i + 1, h => by
    show dotc c (mulR (ones.getD i 0) i others (mulGo ones others i) others.length) = sm i _ + _
    rw [dotc_mulR _ _ _ _ _ (by rw [mulGo_len']; omega), dotc_mulGo ones others i (by omega)]
theorem mulL_len {r : List Int} (h : r ∈ RR) (a b : List Int) : (mulL a b (polyL (ordL r))).length = dg r := redL_len' (by have := poly_len h; omega)
theorem mulL_co {r : List Int} (h : r ∈ RR) {a b : List Int} (ha : a.length = dg r) (hb : b.length = dg r) {j : Nat} (hj : j < dg r) : (mulL a b (polyL (ordL r))).getD j 0 = mv r a (fun k => b.getD k 0) j := by
  unfold mulL
  rw [red_ph (by have := poly_len h; omega) hj]
  show dotc (Tz (dg r) (polyL (ordL r)) j) _ = _
  rw [dotc_mulGo a b _ (Nat.le_refl _), ha, hb]
  refine sm_congr fun i _ => ?_
  unfold tn
  rw [← sm_mul]
  exact sm_congr fun k _ => Int.mul_assoc _ _ _
theorem mv_mul {r : List Int} (a : List Int) (c : Int) (v : Nat → Int) (j : Nat) : mv r a (fun k => c * v k) j = c * mv r a v j := by
  unfold mv
  rw [← sm_mul]
  refine sm_congr fun i _ => ?_
  rw [tn_mul, ← Int.mul_assoc, Int.mul_comm _ c, Int.mul_assoc]
theorem mv_congr {r : List Int} {a : List Int} {v w : Nat → Int} (h : ∀ k, k < dg r → v k = w k) (j : Nat) : mv r a v j = mv r a w j := sm_congr fun i _ => by rw [tn_congr h]
theorem numC_prod {r : List Int} (h : r ∈ RR) {a b : Num} (ha : NumC (dg r) a) (hb : NumC (dg r) b) : NumC (dg r) (prodL (ordL r) a b) := numC_low (mul1 ha.pos hb.pos) (mulL_len h _ _)
theorem Rp_prod {r : List Int} (h : r ∈ RR) {a b : Num} {N : Int} {v : Nat → Int} (ha : NumC (dg r) a) (hb : NumC (dg r) b) (rb : Rp (dg r) b N v) : Rp (dg r) (prodL (ordL r) a b) (a.2 * N) (mv r a.1 v) := by
  refine Rp_of_low (mul1 ha.pos hb.pos) fun j hj => ?_
  rw [mulL_co h ha.len hb.len hj]
  have e1 : b.2 * mv r a.1 v j = N * mv r a.1 (fun k => b.1.getD k 0) j := by
    rw [← mv_mul, ← mv_mul]
    exact mv_congr (fun k hk => rb k hk) j
  have : a.2 * b.2 * mv r a.1 v j = a.2 * (b.2 * mv r a.1 v j) := Int.mul_assoc _ _ _
  rw [this, e1, ← Int.mul_assoc]
theorem mv_TS {r : List Int} (h : r ∈ RR) (a : List Int) (sg : Int) (l : List Int) (W : Nat → Nat → Int) (j : Nat) : Tq r sg l (fun i => mv r a (W i)) j = mv r a (fun k => Tq r sg l W k) j := by
  have d1 := (tabs_of h).d1
  unfold Tq TSf mv
  have e1 : ∀ i, i < dg r → a.getD i 0 * tn (dg r) (polyL (ordL r)) i (fun k => sm (placesL r).length (fun i => tn (dg r) (polyL (ordL r)) (pw r (ordL r) sg ((placesL r).getD i []) l) (W i) k)) j = sm (placesL r).length (fun b => a.getD i 0 * tn (dg r) (polyL (ordL r)) i (tn (dg r) (polyL (ordL r)) (pw r (ordL r) sg ((placesL r).getD b []) l) (W b)) j) := fun i _ => by
    rw [tn_sm, sm_mul]
  rw [sm_congr e1, sm_swap]
  refine sm_congr fun b _ => ?_
  rw [tn_sm]
  refine sm_congr fun i _ => ?_
  rw [tn_mul, tn_tn _ _ _ _ _ _ d1, tn_tn _ _ _ _ _ _ d1, Nat.add_comm]
/-! ### rows -/
structure RowC (r : List Int) (ns : List Num) : Prop where
  len : ns.length = (placesL r).length
  num : ∀ n ∈ ns, NumC (dg r) n
theorem lcmI_dvdL (a b : Int) : a ∣ lcmI a b := by
  unfold lcmI
  refine Int.ofNat_dvd_right.mpr ?_
  rw [Nat.lcm_one_left]
  exact Nat.dvd_lcm_left _ _
theorem lcmI_dvdR (a b : Int) : b ∣ lcmI a b := by
  unfold lcmI
  refine Int.ofNat_dvd_right.mpr ?_
  exact Nat.dvd_lcm_right _ _
theorem lcmI_dvd {a b m : Int} (ha : a ∣ m) (hb : b ∣ m) : lcmI a b ∣ m := by
  unfold lcmI
  refine Int.ofNat_dvd_left.mpr ?_
  rw [Nat.lcm_one_left]
  exact Nat.lcm_dvd (Int.natAbs_dvd_natAbs.mpr ha) (Int.natAbs_dvd_natAbs.mpr hb)
theorem lcmI_pos {a b : Int} (ha : 1 ≤ a) (hb : 1 ≤ b) : 1 ≤ lcmI a b := by
  unfold lcmI
  rw [Nat.lcm_one_left]
  have := Nat.lcm_pos (show 0 < a.natAbs by omega) (show 0 < b.natAbs by omega)
  omega
theorem levGo_dvd : ∀ (ns : List Num) (b : Int), (b ∣ ns.foldl (fun b n => lcmI b n.2) b) ∧ ∀ n ∈ ns, n.2 ∣ ns.foldl (fun b n => lcmI b n.2) b
  | [], b => ⟨Int.dvd_refl _, fun n h => absurd h (by simp)⟩
  | x :: ns, b => by
    have ih := levGo_dvd ns (lcmI b x.2)
    refine ⟨Int.dvd_trans (lcmI_dvdL _ _) ih.1, fun n hn => ?_⟩
    rcases List.mem_cons.mp hn with rfl | hn
    · exact Int.dvd_trans (lcmI_dvdR _ _) ih.1
    · exact ih.2 n hn
theorem levGo_pos : ∀ (ns : List Num) (b : Int), 1 ≤ b → (∀ n ∈ ns, 1 ≤ n.2) → 1 ≤ ns.foldl (fun b n => lcmI b n.2) b
  | [], b, h, _ => h
  | x :: ns, b, h, hn => levGo_pos ns (lcmI b x.2) (lcmI_pos h (hn x List.mem_cons_self)) fun n hm => hn n (List.mem_cons_of_mem _ hm)
theorem levGo_le : ∀ (ns : List Num) (b m : Int), b ∣ m → (∀ n ∈ ns, n.2 ∣ m) → ns.foldl (fun b n => lcmI b n.2) b ∣ m
  | [], b, m, h, _ => h
  | x :: ns, b, m, h, hn => levGo_le ns (lcmI b x.2) m (lcmI_dvd h (hn x List.mem_cons_self)) fun n hm => hn n (List.mem_cons_of_mem _ hm)
theorem levB_dvd {ns : List Num} {n : Num} (h : n ∈ ns) : n.2 ∣ levB ns := (levGo_dvd ns 1).2 n h
theorem levB_pos {ns : List Num} (h : ∀ n ∈ ns, 1 ≤ n.2) : 1 ≤ levB ns := levGo_pos ns 1 (Int.le_refl _) h
theorem levB_le {ns : List Num} {m : Int} (h : ∀ n ∈ ns, n.2 ∣ m) : levB ns ∣ m := levGo_le ns 1 m (Int.one_dvd _) h
theorem levT_len (ns : List Num) : (levT ns).length = ns.length := by simp [levT]
theorem levT_get {ns : List Num} {i : Nat} {n : Num} (h : ns[i]? = some n) : (levT ns).getD i [] = n.1.map fun t => t * (levB ns / n.2) := by
  unfold levT
  rw [List.getD_eq_getElem?_getD, List.getElem?_map, h]
  rfl
theorem Rp_lev {r : List Int} {ns : List Num} {i : Nat} {n : Num} (C : RowC r ns) (h : ns[i]? = some n) : Rp (dg r) n (levB ns) (wv (levT ns) i) := fun k hk => by
  show n.2 * ((levT ns).getD i []).getD k 0 = _
  rw [levT_get h, getD_map (c := fun t => t * (levB ns / n.2)) (Int.zero_mul _)]
  have hm := List.mem_of_getElem? h
  have d := levB_dvd hm
  have e : n.2 * (levB ns / n.2) = levB ns := Int.mul_ediv_cancel' d
  rw [Int.mul_comm (n.1.getD k 0), ← Int.mul_assoc, e]
theorem levT_dg {r : List Int} {ns : List Num} (C : RowC r ns) : ∀ t ∈ levT ns, t.length = dg r := fun t ht => by
  unfold levT at ht
  obtain ⟨n, hn, rfl⟩ := List.mem_map.mp ht
  rw [List.length_map, (C.num n hn).len]
theorem get_lt {α : Type} {l : List α} {i : Nat} (h : i < l.length) : ∃ x, l[i]? = some x := ⟨_, List.getElem?_eq_getElem h⟩
theorem Rp_ts {r : List Int} (h : r ∈ RR) {ns : List Num} (C : RowC r ns) (sg : Int) (l : List Int) {M q : Int} {w : Nat → Nat → Int} (hM : 1 ≤ M) (hq : 1 ≤ q) (hw : ∀ (i : Nat) n, ns[i]? = some n → Rp (dg r) n M (w i)) :
    Rp (dg r) (lowL (tsL r sg l (levT ns)) (levB ns * q)) (M * q) (Tq r sg l w) := by
  have hB : 1 ≤ levB ns := levB_pos fun n hn => (C.num n hn).pos
  refine Rp_of_low (mul1 hB hq) fun j hj => ?_
  rw [tsL_co h sg l (by rw [levT_len, C.len]) (levT_dg C) hj]
  have e : levB ns * Tq r sg l w j = M * Tq r sg l (wv (levT ns)) j := by
    unfold Tq
    rw [← TSf_mul, ← TSf_mul]
    refine TSf_congr fun i hi k hk => ?_
    obtain ⟨n, hn⟩ := get_lt (show i < ns.length by rw [C.len]; exact hi)
    have e1 := hw i n hn k hk
    have e2 := Rp_lev C hn k hk
    have p := (C.num n (List.mem_of_getElem? hn)).pos
    refine icancel p ?_
    have f1 : n.2 * (levB ns * w i k) = levB ns * (n.2 * w i k) := by ac_rfl
    have f2 : n.2 * (M * wv (levT ns) i k) = M * (n.2 * wv (levT ns) i k) := by ac_rfl
    rw [f1, f2, e1, e2]
    ac_rfl
  have f1 : levB ns * q * Tq r sg l w j = q * (levB ns * Tq r sg l w j) := by ac_rfl
  have f2 : M * q * Tq r sg l (wv (levT ns)) j = q * (M * Tq r sg l (wv (levT ns)) j) := by ac_rfl
  rw [f1, f2, e]
theorem voL_get {r : List Int} {ns : List Num} {i : Nat} {n : Num} (h : (voL r ns)[i]? = some n) : i < (placesL r).length ∧ n = lowL (tsL r 1 (pl r i) (levT ns)) (levB ns * 1) := by
  unfold voL at h
  rw [List.getElem?_map] at h
  cases q : (placesL r)[i]? with
  | none => rw [q] at h; cases h
  | some l =>
    rw [q] at h
    refine ⟨(List.getElem?_eq_some_iff.mp q).1, ?_⟩
    rw [← Option.some.inj h, Int.mul_one]
    show lowL (tsL r 1 l (levT ns)) (levB ns) = lowL (tsL r 1 ((placesL r).getD i []) (levT ns)) (levB ns)
    rw [List.getD_eq_getElem?_getD, q]
    rfl
theorem rbL_get {r : List Int} {ns : List Num} {i : Nat} {n : Num} (h : (rbL r ns)[i]? = some n) : i < (placesL r).length ∧ n = lowL (tsL r (-1) (pl r i) (levT ns)) (levB ns * ((placesL r).length : Nat)) := by
  unfold rbL at h
  rw [List.getElem?_map] at h
  cases q : (placesL r)[i]? with
  | none => rw [q] at h; cases h
  | some l =>
    rw [q] at h
    refine ⟨(List.getElem?_eq_some_iff.mp q).1, ?_⟩
    rw [← Option.some.inj h]
    show _ = lowL (tsL r (-1) ((placesL r).getD i []) (levT ns)) _
    rw [List.getD_eq_getElem?_getD, q]
    rfl
theorem pl_pos : ∀ r ∈ RR, 1 ≤ (placesL r).length ∧ (placesL r).length ≤ 16 := by decide +kernel
theorem numC_ts {r : List Int} (h : r ∈ RR) {ns : List Num} (C : RowC r ns) (sg : Int) (l : List Int) {q : Int} (hq : 1 ≤ q) : NumC (dg r) (lowL (tsL r sg l (levT ns)) (levB ns * q)) :=
  numC_low (mul1 (levB_pos fun n hn => (C.num n hn).pos) hq) (tsL_len' h _ _ _)
theorem rowC_vo {r : List Int} (h : r ∈ RR) {ns : List Num} (C : RowC r ns) : RowC r (voL r ns) := by
  refine ⟨by simp [voL], fun n hn => ?_⟩
  obtain ⟨i, hi⟩ := List.getElem?_of_mem hn
  rw [(voL_get hi).2]
  exact numC_ts h C _ _ (by decide)
theorem rowC_rb {r : List Int} (h : r ∈ RR) {ns : List Num} (C : RowC r ns) : RowC r (rbL r ns) := by
  refine ⟨by simp [rbL], fun n hn => ?_⟩
  obtain ⟨i, hi⟩ := List.getElem?_of_mem hn
  rw [(rbL_get hi).2]
  exact numC_ts h C _ _ (by have := pl_pos r h; omega)
theorem Rp_vo {r : List Int} (h : r ∈ RR) {ns : List Num} (C : RowC r ns) {M : Int} {w : Nat → Nat → Int} (hM : 1 ≤ M) (hw : ∀ (i : Nat) n, ns[i]? = some n → Rp (dg r) n M (w i)) {i : Nat} {n : Num} (hn : (voL r ns)[i]? = some n) : Rp (dg r) n M (Tq r 1 (pl r i) w) := by
  rw [(voL_get hn).2, show M = M * 1 by omega]
  exact Rp_ts h C 1 _ hM (by decide) hw
theorem Rp_rb {r : List Int} (h : r ∈ RR) {ns : List Num} (C : RowC r ns) {M : Int} {w : Nat → Nat → Int} (hM : 1 ≤ M) (hw : ∀ (i : Nat) n, ns[i]? = some n → Rp (dg r) n M (w i)) {i : Nat} {n : Num} (hn : (rbL r ns)[i]? = some n) : Rp (dg r) n (M * ((placesL r).length : Nat)) (Tq r (-1) (pl r i) w) := by
  rw [(rbL_get hn).2]
  exact Rp_ts h C (-1) _ hM (by have := pl_pos r h; omega) hw
theorem rows_eq {r : List Int} {as bs : List Num} (ha : RowC r as) (hb : RowC r bs) {M : Int} {w : Nat → Nat → Int} (hM : 1 ≤ M) (h1 : ∀ (i : Nat) n, as[i]? = some n → Rp (dg r) n M (w i)) (h2 : ∀ (i : Nat) n, bs[i]? = some n → Rp (dg r) n M (w i)) : as = bs := by
  refine List.ext_getElem (by rw [ha.len, hb.len]) fun i i1 i2 => ?_
  exact Rp_eq hM (ha.num _ (List.getElem_mem _)) (hb.num _ (List.getElem_mem _)) (h1 i _ (List.getElem?_eq_getElem i1)) (h2 i _ (List.getElem?_eq_getElem i2))
/-- the row behind the voices is the row -/
theorem rb_vo {r : List Int} (h : r ∈ RR) {ns : List Num} (C : RowC r ns) : rbL r (voL r ns) = ns := by
  have hB : 1 ≤ levB ns := levB_pos fun n hn => (C.num n hn).pos
  have p := pl_pos r h
  refine rows_eq (rowC_rb h (rowC_vo h C)) C (mul1 hB (show (1 : Int) ≤ ((placesL r).length : Nat) by omega)) (w := fun i k => ((placesL r).length : Nat) * wv (levT ns) i k) (fun i n hn => ?_) (fun i n hn => ?_)
  · have q := Rp_rb h (rowC_vo h C) hB (w := fun li => Tq r 1 (pl r li) (wv (levT ns))) (fun li m hm => Rp_vo h C hB (fun a b hb => Rp_lev C hb) hm) hn
    refine Rp_congr (fun k hk => ?_) q
    exact inv_ts (tabs_of h) (.inr rfl) (rbL_get hn).1 (wv (levT ns)) hk
  · exact Rp_mul _ (Rp_lev C hn)
/-- the voices of the row behind a row are the row -/
theorem vo_rb {r : List Int} (h : r ∈ RR) {ns : List Num} (C : RowC r ns) : voL r (rbL r ns) = ns := by
  have hB : 1 ≤ levB ns := levB_pos fun n hn => (C.num n hn).pos
  have p := pl_pos r h
  have hM := mul1 hB (show (1 : Int) ≤ ((placesL r).length : Nat) by omega)
  refine rows_eq (rowC_vo h (rowC_rb h C)) C hM (w := fun i k => ((placesL r).length : Nat) * wv (levT ns) i k) (fun i n hn => ?_) (fun i n hn => ?_)
  · have q := Rp_vo h (rowC_rb h C) hM (w := fun li => Tq r (-1) (pl r li) (wv (levT ns))) (fun li m hm => Rp_rb h C hB (fun a b hb => Rp_lev C hb) hm) hn
    refine Rp_congr (fun k hk => ?_) q
    exact inv_ts (tabs_of h) (.inl rfl) (voL_get hn).1 (wv (levT ns)) hk
  · exact Rp_mul _ (Rp_lev C hn)
/-! ### the voice with the origin -/
def vecL (d : Nat) (f : Nat → Int) : List Int := (List.range d).map f
theorem vecL_get {d : Nat} {f : Nat → Int} {k : Nat} (h : k < d) : (vecL d f).getD k 0 = f k := by
  unfold vecL
  rw [List.getD_eq_getElem?_getD, List.getElem?_map, List.getElem?_range h]
  rfl
theorem TS_org {r : List Int} (h : r ∈ RR) (W : Nat → Nat → Int) {j : Nat} (hj : j < dg r) : Tq r 1 (pl r 0) W j = sm (placesL r).length (fun i => W i j) := by
  refine sm_congr fun i hi => ?_
  have : pw r (ordL r) 1 ((placesL r).getD i []) (pl r 0) = 0 := by
    unfold pw
    rw [org_ok r h _ (by rw [List.getD_eq_getElem?_getD, List.getElem?_eq_getElem hi]; exact List.getElem_mem _)]
    rfl
  rw [this, tn_zero hj]
def totL (r : List Int) (ns : List Num) : Num := ns.foldl (fun t n => sumN t n 1) (List.replicate (dg r) 0, 1)
theorem numC_zero (d : Nat) : NumC d (List.replicate d 0, 1) := by
  refine ⟨by simp, Int.le_refl _, ?_⟩
  have g := lowC_dvd (List.replicate d (0 : Int)) 1
  have p := lowC_pos (List.replicate d (0 : Int)) 1 (Int.le_refl _)
  have e : lowC (List.replicate d (0 : Int)) 1 = 1 := by
    have := Int.le_of_dvd (by decide) g.1
    omega
  unfold lowL
  rw [e]
  simp
theorem numC_tot {r : List Int} {ns : List Num} (C : ∀ n ∈ ns, NumC (dg r) n) : ∀ i, NumC (dg r) (totL r (ns.take i))
  | 0 => numC_zero _
  | i + 1 => by
    rw [List.take_succ]
    cases e : ns[i]? with
    | none => simpa using numC_tot C i
    | some n =>
      show NumC (dg r) ((ns.take i ++ [n]).foldl _ _)
      rw [List.foldl_append]
      exact numC_sum (numC_tot C i) (C n (List.mem_of_getElem? e)) 1
theorem Rp_cancel {d : Nat} {n : Num} {M c : Int} {w : Nat → Int} (hc : 1 ≤ c) (q : Rp d n (c * M) (fun k => c * w k)) : Rp d n M w := fun k hk => by
  refine icancel hc ?_
  have := q k hk
  have f1 : c * (n.2 * w k) = n.2 * (c * w k) := by ac_rfl
  rw [f1, this, Int.mul_assoc]
theorem Rp_tot {r : List Int} {ns : List Num} (C : RowC r ns) : ∀ i, i ≤ ns.length → Rp (dg r) (totL r (ns.take i)) (levB ns) (fun k => sm i (fun a => wv (levT ns) a k))
  | 0, _ => fun k hk => by
    show (1 : Int) * 0 = levB ns * (List.replicate (dg r) (0 : Int)).getD k 0
    rw [List.getD_eq_getElem?_getD, List.getElem?_replicate]
    simp [hk]
  | i + 1, hi => by
    have hB : 1 ≤ levB ns := levB_pos fun n hn => (C.num n hn).pos
    have ih := Rp_tot C i (by omega)
    obtain ⟨n, hn⟩ := get_lt (show i < ns.length by omega)
    rw [List.take_succ, hn]
    show Rp (dg r) ((ns.take i ++ [n]).foldl _ _) _ _
    rw [List.foldl_append]
    have q := Rp_sum (numC_tot C.num i) (C.num n (List.mem_of_getElem? hn)) ih (Rp_lev C hn)
    refine Rp_cancel (c := levB ns) hB ?_
    refine Rp_congr (fun k hk => ?_) q
    show _ = levB ns * (sm i (fun a => wv (levT ns) a k) + wv (levT ns) i k)
    rw [Int.mul_add]
/-- the voice with the origin is the sum of the items -/
theorem vo_org {r : List Int} (h : r ∈ RR) {ns : List Num} (C : RowC r ns) : lowL (tsL r 1 (pl r 0) (levT ns)) (levB ns) = totL r ns := by
  have hB : 1 ≤ levB ns := levB_pos fun n hn => (C.num n hn).pos
  have q := Rp_ts h C 1 (pl r 0) hB (Int.le_refl 1) (fun i n hn => Rp_lev C hn)
  have nc := numC_ts h C 1 (pl r 0) (Int.le_refl 1)
  rw [Int.mul_one] at q
  rw [Int.mul_one] at nc
  have t := Rp_tot C ns.length (Nat.le_refl _)
  have tc := numC_tot C.num ns.length
  rw [List.take_length] at t tc
  refine Rp_eq hB nc tc q (Rp_congr (fun k hk => ?_) t)
  rw [TS_org h _ hk, C.len]
/-! ### sums and multiples -/
def nearL (r : List Int) (c : Num) (xs ys : List Num) : List Num := List.zipWith (fun x y => sumN x (prodL (ordL r) c y) 1) xs ys
theorem nearL_get {r : List Int} {c : Num} {xs ys : List Num} {i : Nat} {n : Num} (h : (nearL r c xs ys)[i]? = some n) : ∃ x y, xs[i]? = some x ∧ ys[i]? = some y ∧ n = sumN x (prodL (ordL r) c y) 1 := by
  unfold nearL at h
  rw [List.getElem?_zipWith] at h
  cases e1 : xs[i]? with
  | none => rw [e1] at h; cases h
  | some x =>
    cases e2 : ys[i]? with
    | none => rw [e1, e2] at h; cases h
    | some y =>
      rw [e1, e2] at h
      exact ⟨x, y, rfl, rfl, (Option.some.inj h).symm⟩
theorem rowC_near {r : List Int} (h : r ∈ RR) {c : Num} (hc : NumC (dg r) c) {xs ys : List Num} (X : RowC r xs) (Y : RowC r ys) : RowC r (nearL r c xs ys) := by
  refine ⟨by unfold nearL; rw [List.length_zipWith, X.len, Y.len]; omega, fun n hn => ?_⟩
  obtain ⟨i, hi⟩ := List.getElem?_of_mem hn
  obtain ⟨x, y, e1, e2, rfl⟩ := nearL_get hi
  exact numC_sum (X.num x (List.mem_of_getElem? e1)) (numC_prod h hc (Y.num y (List.mem_of_getElem? e2))) 1
theorem Rp_near {r : List Int} (h : r ∈ RR) {c : Num} (hc : NumC (dg r) c) {xs ys : List Num} (X : RowC r xs) (Y : RowC r ys) {M N : Int} {u v : Nat → Nat → Int} (hu : ∀ (i : Nat) n, xs[i]? = some n → Rp (dg r) n M (u i)) (hv : ∀ (i : Nat) n, ys[i]? = some n → Rp (dg r) n N (v i))
    {i : Nat} {n : Num} (hn : (nearL r c xs ys)[i]? = some n) : Rp (dg r) n (M * (c.2 * N)) (fun k => c.2 * N * u i k + M * mv r c.1 (v i) k) := by
  obtain ⟨x, y, e1, e2, rfl⟩ := nearL_get hn
  have hy := Y.num y (List.mem_of_getElem? e2)
  exact Rp_sum (X.num x (List.mem_of_getElem? e1)) (numC_prod h hc hy) (hu i x e1) (Rp_prod h hc hy (hv i y e2))
/-- the voices of sums and multiples are the sums and multiples -/
theorem vo_near {r : List Int} (h : r ∈ RR) {c : Num} (hc : NumC (dg r) c) {xs ys : List Num} (X : RowC r xs) (Y : RowC r ys) : voL r (nearL r c xs ys) = nearL r c (voL r xs) (voL r ys) := by
  have hA : 1 ≤ levB xs := levB_pos fun n hn => (X.num n hn).pos
  have hB : 1 ≤ levB ys := levB_pos fun n hn => (Y.num n hn).pos
  have hM : 1 ≤ levB xs * (c.2 * levB ys) := mul1 hA (mul1 hc.pos hB)
  refine rows_eq (rowC_vo h (rowC_near h hc X Y)) (rowC_near h hc (rowC_vo h X) (rowC_vo h Y)) hM (w := fun i => Tq r 1 (pl r i) (fun a k => c.2 * levB ys * wv (levT xs) a k + levB xs * mv r c.1 (wv (levT ys) a) k)) (fun i n hn => ?_) (fun i n hn => ?_)
  · exact Rp_vo h (rowC_near h hc X Y) hM (fun a m hm => Rp_near h hc X Y (fun i n e => Rp_lev X e) (fun i n e => Rp_lev Y e) hm) hn
  · have q := Rp_near h hc (rowC_vo h X) (rowC_vo h Y) (u := fun i => Tq r 1 (pl r i) (wv (levT xs))) (v := fun i => Tq r 1 (pl r i) (wv (levT ys))) (fun a m hm => Rp_vo h X hA (fun i n e => Rp_lev X e) hm) (fun a m hm => Rp_vo h Y hB (fun i n e => Rp_lev Y e) hm) hn
    refine Rp_congr (fun k hk => ?_) q
    unfold Tq
    rw [TSf_add, TSf_mul, TSf_mul]
    congr 2
    exact (mv_TS h c.1 1 (pl r i) (wv (levT ys)) k).symm
end K09

/-! The law's ring polynomials. -/
namespace K09
def divsL (e : Int) : List Int := (rgL 1 e.toNat).filter fun d => decide (e % d = 0)
/-- one division from above: what is left, and what was found -/
def rkL (by_ left : List Int) : Nat → List Int × List Int
  | 0 => (left, [])
  | m + 1 => (subN ((rkL by_ left m).1.getD (left.length - by_.length - m + by_.length - 1) 0) by_ (left.length - by_.length - m) (rkL by_ left m).1 by_.length,
      (rkL by_ left m).2 ++ [(rkL by_ left m).1.getD (left.length - by_.length - m + by_.length - 1) 0])
def rstep (left by_ : List Int) : List Int := (rkL by_ left (left.length - by_.length + 1)).2.reverse
def rflt (t : List (Int × List Int)) (d : Int) : List (Int × List Int) := t.filter fun p => decide (d % p.1 = 0)
def rinL (t : List (Int × List Int)) (d : Int) (j : Nat) : List Int := ((rflt t d).take j).foldl (fun left p => rstep left p.2) ([-1] ++ List.replicate (d - 1).toNat 0 ++ [1])
def rtab (e : Int) : Nat → List (Int × List Int)
  | 0 => []
  | i + 1 => rtab e i ++ [((divsL e).getD i 0, rinL (rtab e i) ((divsL e).getD i 0) (rflt (rtab e i) ((divsL e).getD i 0)).length)]
def okTab (t : List (Int × List Int)) : Bool := t.all fun p => decide (1 ≤ p.1) && (decide (2 ≤ p.2.length) && p.2.all fun x => decide (-1000 ≤ x) && decide (x ≤ 1000))
theorem lr_tab : ∀ e ∈ ER, ∀ i ∈ List.range ((divsL e).length + 1), okTab (rtab e i) = true ∧ (rtab e i).map (·.1) = (divsL e).take i ∧ (rtab e i).length < 60 := by decide +kernel
theorem lr_in : ∀ e ∈ ER, ∀ i ∈ List.range (divsL e).length, ∀ j ∈ List.range (rflt (rtab e i) ((divsL e).getD i 0)).length, ((rflt (rtab e i) ((divsL e).getD i 0)).getD j (0, [])).2.length ≤ (rinL (rtab e i) ((divsL e).getD i 0) j).length ∧ (rinL (rtab e i) ((divsL e).getD i 0) j).length ≤ 100 := by decide +kernel
theorem lr_divs : ∀ e ∈ ER, (∀ d ∈ divsL e, 1 ≤ d ∧ d ≤ 60) ∧ (divsL e).length < 60 ∧ (divsL e).Pairwise (· < ·) ∧ 1 ≤ (divsL e).length := by decide +kernel
theorem lr_end : ∀ e ∈ ER, (e, polyL e) ∈ rtab e (divsL e).length := by decide +kernel
theorem rkL_len (by_ left : List Int) : ∀ m, (rkL by_ left m).1.length = left.length ∧ (rkL by_ left m).2.length = m
  | 0 => ⟨rfl, rfl⟩
  | m + 1 => by
    have ih := rkL_len by_ left m
    have gl : ∀ (h : Int) (dv : List Int) (a : Nat) (r : List Int) (k : Nat), (subN h dv a r k).length = r.length := by
      intro h dv a r k
      induction k with
      | zero => rfl
      | succ k ihk =>
        show (List.set _ _ _).length = _
        rw [List.length_set, ihk]
    refine ⟨?_, ?_⟩
    · show (subN _ _ _ _ _).length = _
      rw [gl, ih.1]
    · show (_ ++ [_]).length = _
      rw [List.length_append, ih.2]
      rfl
end K09

/-! The law's own remainder. -/
namespace K09
def mdGo (ring sums : List Int) : Nat → List Int
  | 0 => sums
  | m + 1 => if (mdGo ring sums m).getD (sums.length - 1 - m) 0 = 0 then mdGo ring sums m
    else subN ((mdGo ring sums m).getD (sums.length - 1 - m) 0) ring (sums.length - 1 - m - (ring.length - 1)) (mdGo ring sums m) ring.length
def mdL (ring sums : List Int) : List Int := ((mdGo ring sums (sums.length - (ring.length - 1))) ++ List.replicate (ring.length - 1) 0).take (ring.length - 1)
theorem mdGo_len (ring sums : List Int) : ∀ m, (mdGo ring sums m).length = sums.length
  | 0 => rfl
  | m + 1 => by
    show (if _ then _ else _ : List Int).length = _
    split
    · exact mdGo_len ring sums m
    · rw [subN_len', mdGo_len ring sums m]
theorem subN_get (h : Int) (dv : List Int) (a : Nat) (r : List Int) : ∀ k, a + k ≤ r.length → ∀ i, (subN h dv a r k).getD i 0 = r.getD i 0 - (if a ≤ i ∧ i < a + k then h * dv.getD (i - a) 0 else 0)
  | 0, _, i => by
    rw [if_neg (by omega)]
    show r.getD i 0 = _
    omega
  | k + 1, hk, i => by
    show ((subN h dv a r k).set (a + k) ((subN h dv a r k).getD (a + k) 0 - h * dv.getD k 0)).getD i 0 = _
    rw [getD_set (by rw [subN_len']; omega)]
    have ih := subN_get h dv a r k (by omega)
    by_cases e : i = a + k
    · subst e
      rw [if_pos rfl, ih, if_neg (by omega), if_pos (by omega), show a + k - a = k by omega]
      omega
    · rw [if_neg e, ih]
      by_cases q : a ≤ i ∧ i < a + k
      · rw [if_pos q, if_pos (by omega)]
      · rw [if_neg q, if_neg (by omega)]
theorem md_facts {ring sums : List Int} (h2 : 2 ≤ ring.length) (h1 : ring.getD (ring.length - 1) 0 = 1) (j : Nat) : ∀ m, m ≤ sums.length - (ring.length - 1) →
    ph (ring.length - 1) ring j (mdGo ring sums m) = ph (ring.length - 1) ring j sums ∧ ∀ i, sums.length - m ≤ i → (mdGo ring sums m).getD i 0 = 0
  | 0, _ => ⟨rfl, fun i hi => by
      show sums.getD i 0 = 0
      rw [List.getD_eq_getElem?_getD, List.getElem?_eq_none (by omega)]
      rfl⟩
  | m + 1, hm => by
    have ih := md_facts (sums := sums) h2 h1 j m (by omega)
    have ln := mdGo_len ring sums m
    have e0 : mdGo ring sums (m + 1) = if (mdGo ring sums m).getD (sums.length - 1 - m) 0 = 0 then mdGo ring sums m
      else subN ((mdGo ring sums m).getD (sums.length - 1 - m) 0) ring (sums.length - 1 - m - (ring.length - 1)) (mdGo ring sums m) ring.length := rfl
    rw [e0]
    by_cases z : (mdGo ring sums m).getD (sums.length - 1 - m) 0 = 0
    · rw [if_pos z]
      refine ⟨ih.1, fun i hi => ?_⟩
      by_cases q : i = sums.length - 1 - m
      · rw [q]; exact z
      · exact ih.2 i (by omega)
    · rw [if_neg z]
      generalize htop : (mdGo ring sums m).getD (sums.length - 1 - m) 0 = top at *
      generalize hR : mdGo ring sums m = R at *
      refine ⟨?_, fun i hi => ?_⟩
      · rw [ph_sub _ _ _ _ _ _ _ (by rw [ln]; omega), ih.1]
        have e1 : sm ring.length (fun k => ring.getD k 0 * Tz (ring.length - 1) ring j (sums.length - 1 - m - (ring.length - 1) + k)) = 0 := by
          obtain ⟨d, hd⟩ : ∃ d, ring.length = d + 1 := ⟨ring.length - 1, by omega⟩
          rw [hd] at h1 ⊢
          show sm d _ + ring.getD d 0 * Tz d ring j (sums.length - 1 - m - d + d) = 0
          rw [show d + 1 - 1 = d by omega] at h1
          rw [h1, T_rec]
          show sm d (fun k => ring.getD k 0 * Tz d ring j (sums.length - 1 - m - d + k)) + _ = 0
          omega
        rw [e1]
        omega
      · rw [subN_get _ _ _ _ _ (by rw [ln]; omega)]
        by_cases q : i = sums.length - 1 - m
        · have qt : R.getD i 0 = top := by rw [q]; exact htop
          rw [if_pos (by omega), qt, q, show sums.length - 1 - m - (sums.length - 1 - m - (ring.length - 1)) = ring.length - 1 by omega, h1]
          omega
        · rw [ih.2 i (by omega), if_neg (by omega)]
          rfl
theorem md_red {ring sums : List Int} (h2 : 2 ≤ ring.length) (h1 : ring.getD (ring.length - 1) 0 = 1) : mdL ring sums = redL sums ring := by
  have ln := mdGo_len ring sums (sums.length - (ring.length - 1))
  refine ext_getD ?_ fun j hj => ?_
  · rw [redL_len' (by omega)]
    unfold mdL
    rw [List.length_take, List.length_append, List.length_replicate]
    omega
  · have jd : j < ring.length - 1 := by
      unfold mdL at hj
      rw [List.length_take] at hj
      omega
    rw [red_ph (by omega) jd]
    have F := md_facts (sums := sums) h2 h1 j _ (Nat.le_refl _)
    rw [← F.1]
    unfold mdL
    generalize mdGo ring sums (sums.length - (ring.length - 1)) = R at F ln
    have e2 : ph (ring.length - 1) ring j R = R.getD j 0 := by
      have e : ph (ring.length - 1) ring j R = sm R.length (fun i => if i = j then R.getD i 0 else 0) := by
        unfold ph
        refine sm_congr fun i hi => ?_
        by_cases q : i < ring.length - 1
        · rw [T_lo q]
          by_cases h : i = j
          · rw [if_pos h, if_pos h]; omega
          · rw [if_neg h, if_neg h]; omega
        · rw [F.2 i (by omega), if_neg (by omega)]
          omega
      rw [e, sm_delta]
      by_cases h : j < R.length
      · rw [if_pos h]
      · rw [if_neg h, List.getD_eq_getElem?_getD, List.getElem?_eq_none (by omega)]
        rfl
    rw [e2, List.getD_eq_getElem?_getD, List.getElem?_take_of_lt jd, List.getD_eq_getElem?_getD]
    by_cases h : j < R.length
    · rw [List.getElem?_append_left h]
    · rw [List.getElem?_append_right (by omega), List.getElem?_eq_none (by omega : R.length ≤ j), List.getElem?_replicate]
      split <;> rfl
theorem er_mon : ∀ e ∈ ER, 2 ≤ (polyL e).length ∧ (polyL e).length ≤ 17 ∧ (polyL e).getD ((polyL e).length - 1) 0 = 1 ∧ ∀ d ∈ polyL e, -1000 ≤ d ∧ d ≤ 1000 := by decide +kernel
end K09

/-! How great the numbers get. -/
namespace K09
theorem sm_abs {f : Nat → Int} {c : Nat} : ∀ {n : Nat}, (∀ i, i < n → (f i).natAbs ≤ c) → (sm n f).natAbs ≤ n * c
  | 0, _ => by show (0 : Int).natAbs ≤ _; simp
  | n + 1, h => by
    have ih := sm_abs (n := n) fun i hi => h i (by omega)
    have hn := h n (by omega)
    show (sm n f + f n).natAbs ≤ (n + 1) * c
    rw [Nat.add_mul]
    have := Int.natAbs_add_le (sm n f) (f n)
    omega
theorem tabs_abs : ∀ t ∈ tabs, ∀ col ∈ t.2.2, ∀ x ∈ col, x.natAbs ≤ 2 := by decide +kernel
theorem T_abs {r : List Int} (h : r ∈ RR) {j : Nat} (hj : j < dg r) (i : Nat) : (Tz (dg r) (polyL (ordL r)) j i).natAbs ≤ 2 := by
  have B := tabs_of h
  obtain ⟨t, ht, te⟩ := er_tab _ (ord_er r h)
  have ok := tabs_ok t ht
  have ep : polyL (ordL r) = t.2.1 := by rw [← te]; exact ok.1
  have e0 := B.e0
  have hlt : i % (ordL r).toNat < (ordL r).toNat := Nat.mod_lt _ (by omega)
  have e1 : Tz (dg r) (polyL (ordL r)) j i = Tz (dg r) (polyL (ordL r)) j (i % (ordL r).toNat) := T_eqv (e := (ordL r).toNat) (B.per j hj) (Nat.mod_mod _ _).symm
  rw [e1]
  have hj' : j < t.2.1.length - 1 := by rw [← ep]; exact hj
  have e2 := tab_col ht hj' (i := i % (ordL r).toNat) (by rw [te]; omega)
  show (Tz ((polyL (ordL r)).length - 1) (polyL (ordL r)) j (i % (ordL r).toNat)).natAbs ≤ 2
  rw [ep, ← e2]
  have lc : t.2.2.length = t.2.1.length - 1 := by
    rw [ok.2]
    simp
  have hc : t.2.2.getD j [] ∈ t.2.2 := by
    rw [List.getD_eq_getElem?_getD, List.getElem?_eq_getElem (by omega)]
    exact List.getElem_mem _
  generalize t.2.2.getD j [] = col at hc
  rw [List.getD_eq_getElem?_getD]
  cases q : col[i % (ordL r).toNat]? with
  | none => simp
  | some x => exact tabs_abs t ht _ hc x (List.mem_of_getElem? q)
theorem dg_le {r : List Int} (h : r ∈ RR) : dg r ≤ 16 := by
  have := (er_mon _ (ord_er r h)).2.1
  show (polyL (ordL r)).length - 1 ≤ 16
  omega
theorem tn_abs {r : List Int} (h : r ∈ RR) (p : Nat) {v : Nat → Int} {M : Nat} (hv : ∀ k, k < dg r → (v k).natAbs ≤ M) {j : Nat} (hj : j < dg r) : (tn (dg r) (polyL (ordL r)) p v j).natAbs ≤ 32 * M := by
  have s : (tn (dg r) (polyL (ordL r)) p v j).natAbs ≤ dg r * (M * 2) := sm_abs fun k hk => by
    rw [Int.natAbs_mul]
    exact Nat.mul_le_mul (hv k hk) (T_abs h hj _)
  have e : dg r * (M * 2) ≤ 16 * (M * 2) := Nat.mul_le_mul_right _ (dg_le h)
  omega
theorem TS_abs {r : List Int} (h : r ∈ RR) (sg : Int) (l : List Int) {W : Nat → Nat → Int} {M : Nat} (hW : ∀ i, i < (placesL r).length → ∀ k, k < dg r → (W i k).natAbs ≤ M) {j : Nat} (hj : j < dg r) : (Tq r sg l W j).natAbs ≤ 512 * M := by
  have s : (Tq r sg l W j).natAbs ≤ (placesL r).length * (32 * M) := sm_abs fun i hi => tn_abs h _ (hW i hi) hj
  have e : (placesL r).length * (32 * M) ≤ 16 * (32 * M) := Nat.mul_le_mul_right _ (pl_pos r h).2
  omega
def Abs (M : Nat) (xs : List Int) : Prop := ∀ x ∈ xs, x.natAbs ≤ M
theorem Abs.get {M : Nat} {xs : List Int} (h : Abs M xs) (j : Nat) : (xs.getD j 0).natAbs ≤ M := by
  rw [List.getD_eq_getElem?_getD]
  cases q : xs[j]? with
  | none => simp
  | some x => exact h x (List.mem_of_getElem? q)
theorem Abs.of {M : Nat} {xs : List Int} (h : ∀ j, j < xs.length → (xs.getD j 0).natAbs ≤ M) : Abs M xs := fun x hx => by
  obtain ⟨j, hj⟩ := List.getElem?_of_mem hx
  have := h j (List.getElem?_eq_some_iff.mp hj).1
  rw [List.getD_eq_getElem?_getD, hj] at this
  exact this
theorem low_abs {v : List Int} {b : Int} {M : Nat} (hb : 1 ≤ b) (h : Abs M v) : Abs M (lowL v b).1 := fun t ht => by
  obtain ⟨x, hx, rfl⟩ := List.mem_map.mp ht
  have g := lowC_pos v b hb
  obtain ⟨c, hc⟩ := (lowC_dvd v b).2 x hx
  have e1 : x / lowC v b = c := by
    conv => lhs; lhs; rw [hc]
    exact Int.mul_ediv_cancel_left _ (by omega)
  rw [e1]
  have := h x hx
  rw [hc, Int.natAbs_mul] at this
  have g1 : 1 ≤ (lowC v b).natAbs := by omega
  have : 1 * c.natAbs ≤ (lowC v b).natAbs * c.natAbs := Nat.mul_le_mul_right _ g1
  omega
/-- rows with small bottoms -/
structure RowS (r : List Int) (D : Int) (ns : List Num) : Prop where
  c : RowC r ns
  d : ∀ n ∈ ns, n.2 ∣ D
theorem RowS.lev {r : List Int} {D : Int} {ns : List Num} (h : RowS r D ns) (hD : 1 ≤ D) (i : Nat) : 1 ≤ levB (ns.take i) ∧ levB (ns.take i) ∣ D ∧ levB (ns.take i) ≤ D := by
  have hm : ∀ n ∈ ns.take i, n ∈ ns := fun n hn => List.mem_of_mem_take hn
  have d := levB_le (ns := ns.take i) (m := D) fun n hn => h.d n (hm n hn)
  exact ⟨levB_pos fun n hn => (h.c.num n (hm n hn)).pos, d, Int.le_of_dvd (by omega) d⟩
theorem RowS.g {r : List Int} (hr : r ∈ RR) {D : Int} {ns : List Num} (h : RowS r D ns) (hD : 1 ≤ D) (hD2 : D ≤ 1000) : RowG r ns := by
  refine ⟨⟨h.c.len, fun n hn => ?_, fun i _ => ?_⟩, fun n hn => ?_⟩
  · have c := h.c.num n hn
    have := Int.le_of_dvd (by omega) (h.d n hn)
    exact ⟨c.pos, by omega, by rw [c.len]; have := dg_le hr; omega⟩
  · have := h.lev hD i
    exact ⟨this.1, by omega⟩
  · have c := h.c.num n hn
    have := Int.le_of_dvd (by omega) (h.d n hn)
    exact ⟨by rw [c.len, (poly_len hr).2.1], c.pos, by omega, c.low⟩
theorem rowS_vo {r : List Int} (hr : r ∈ RR) {D : Int} {ns : List Num} (h : RowS r D ns) (hD : 1 ≤ D) : RowS r D (voL r ns) := by
  refine ⟨rowC_vo hr h.c, fun n hn => ?_⟩
  obtain ⟨i, hi⟩ := List.getElem?_of_mem hn
  have l := h.lev hD ns.length
  rw [List.take_length] at l
  rw [(voL_get hi).2]
  refine Int.dvd_trans (low_dvd _ _ (by omega)) ?_
  rw [Int.mul_one]
  exact l.2.1
theorem rowS_rb {r : List Int} (hr : r ∈ RR) {D : Int} {ns : List Num} (h : RowS r D ns) (hD : 1 ≤ D) : RowS r (D * ((placesL r).length : Nat)) (rbL r ns) := by
  refine ⟨rowC_rb hr h.c, fun n hn => ?_⟩
  obtain ⟨i, hi⟩ := List.getElem?_of_mem hn
  have l := h.lev hD ns.length
  rw [List.take_length] at l
  have p := pl_pos r hr
  rw [(rbL_get hi).2]
  refine Int.dvd_trans (low_dvd _ _ (mul1 l.1 (by omega))) ?_
  exact Int.mul_dvd_mul_right _ l.2.1
theorem rowS_near {r : List Int} (hr : r ∈ RR) {c : Num} (hc : NumC (dg r) c) {D C : Int} (hcd : c.2 ∣ C) {xs ys : List Num} (X : RowS r D xs) (Y : RowS r D ys) : RowS r (D * (C * D)) (nearL r c xs ys) := by
  refine ⟨rowC_near hr hc X.c Y.c, fun n hn => ?_⟩
  obtain ⟨i, hi⟩ := List.getElem?_of_mem hn
  obtain ⟨x, y, e1, e2, rfl⟩ := nearL_get hi
  have mx := List.mem_of_getElem? e1
  have my := List.mem_of_getElem? e2
  have cx := X.c.num x mx
  have cy := Y.c.num y my
  have cp := numC_prod hr hc cy
  refine Int.dvd_trans (low_dvd _ _ (mul1 cx.pos cp.pos)) ?_
  refine Int.mul_dvd_mul (X.d x mx) ?_
  refine Int.dvd_trans (low_dvd _ _ (mul1 hc.pos cy.pos)) ?_
  exact Int.mul_dvd_mul hcd (Y.d y my)
/-! ### rows of no great ints -/
def AbsR (M : Nat) (ns : List Num) : Prop := ∀ n ∈ ns, Abs M n.1
theorem abs_lev {r : List Int} {ns : List Num} {M : Nat} (hD : levB ns ≤ 1000) (C : RowC r ns) (h : AbsR M ns) {i : Nat} (hi : i < (placesL r).length) (k : Nat) : (wv (levT ns) i k).natAbs ≤ M * 1000 := by
  obtain ⟨n, hn⟩ := get_lt (show i < ns.length by rw [C.len]; exact hi)
  have hm := List.mem_of_getElem? hn
  show (((levT ns).getD i []).getD k 0).natAbs ≤ _
  rw [levT_get hn, getD_map (c := fun t => t * (levB ns / n.2)) (Int.zero_mul _), Int.natAbs_mul]
  have p := (C.num n hm).pos
  have b1 : 1 ≤ levB ns := levB_pos fun n hn => (C.num n hn).pos
  have q0 : 0 ≤ levB ns / n.2 := Int.ediv_nonneg (by omega) (by omega)
  have q1 : levB ns / n.2 ≤ levB ns := Int.ediv_le_self _ (by omega)
  exact Nat.mul_le_mul ((h n hm).get k) (by omega)
theorem abs_ts {r : List Int} (hr : r ∈ RR) {ns : List Num} {M : Nat} (hD : levB ns ≤ 1000) (C : RowC r ns) (h : AbsR M ns) (sg : Int) (l : List Int) {b : Int} (hb : 1 ≤ b) : Abs (512000 * M) (lowL (tsL r sg l (levT ns)) b).1 := by
  refine low_abs hb (Abs.of fun j hj => ?_)
  rw [tsL_len' hr] at hj
  rw [tsL_co hr sg l (by rw [levT_len, C.len]) (levT_dg C) hj]
  have := TS_abs hr sg l (W := wv (levT ns)) (M := M * 1000) (fun i hi k _ => abs_lev hD C h hi k) hj
  omega
theorem abs_vo {r : List Int} (hr : r ∈ RR) {ns : List Num} {M : Nat} (hD : levB ns ≤ 1000) (C : RowC r ns) (h : AbsR M ns) : AbsR (512000 * M) (voL r ns) := fun n hn => by
  obtain ⟨i, hi⟩ := List.getElem?_of_mem hn
  rw [(voL_get hi).2]
  exact abs_ts hr hD C h _ _ (by have := levB_pos fun n hn => (C.num n hn).pos; omega)
theorem abs_rb {r : List Int} (hr : r ∈ RR) {ns : List Num} {M : Nat} (hD : levB ns ≤ 1000) (C : RowC r ns) (h : AbsR M ns) : AbsR (512000 * M) (rbL r ns) := fun n hn => by
  obtain ⟨i, hi⟩ := List.getElem?_of_mem hn
  have p := pl_pos r hr
  rw [(rbL_get hi).2]
  exact abs_ts hr hD C h _ _ (mul1 (levB_pos fun n hn => (C.num n hn).pos) (by omega))
theorem abs_sum {d : Nat} {a b : Num} {M N : Nat} (ha : NumC d a) (hb : NumC d b) (h1 : a.2 ≤ 1000) (h2 : b.2 ≤ 1000) (ma : Abs M a.1) (mb : Abs N b.1) : Abs (1000 * M + 1000 * N) (sumN a b 1).1 := by
  refine low_abs (mul1 ha.pos hb.pos) (Abs.of fun j hj => ?_)
  rw [sumT_len] at hj
  rw [sumT_get hj, Int.one_mul]
  have p1 := ha.pos
  have p2 := hb.pos
  have e1 : (a.1.getD j 0 * b.2).natAbs ≤ M * 1000 := by
    rw [Int.natAbs_mul]
    exact Nat.mul_le_mul (ma.get j) (by omega)
  have e2 : (b.1.getD j 0 * a.2).natAbs ≤ N * 1000 := by
    rw [Int.natAbs_mul]
    exact Nat.mul_le_mul (mb.get j) (by omega)
  have := Int.natAbs_add_le (a.1.getD j 0 * b.2) (b.1.getD j 0 * a.2)
  omega
theorem abs_prod {r : List Int} (hr : r ∈ RR) {a b : Num} {M N : Nat} (ha : NumC (dg r) a) (hb : NumC (dg r) b) (ma : Abs M a.1) (mb : Abs N b.1) : Abs (512 * (M * N)) (prodL (ordL r) a b).1 := by
  refine low_abs (mul1 ha.pos hb.pos) (Abs.of fun j hj => ?_)
  rw [mulL_len hr] at hj
  rw [mulL_co hr ha.len hb.len hj]
  have s : (mv r a.1 (fun k => b.1.getD k 0) j).natAbs ≤ dg r * (M * (32 * N)) := sm_abs fun i _ => by
    rw [Int.natAbs_mul]
    exact Nat.mul_le_mul (ma.get i) (tn_abs hr _ (fun k _ => mb.get k) hj)
  have e : dg r * (M * (32 * N)) ≤ 16 * (M * (32 * N)) := Nat.mul_le_mul_right _ (dg_le hr)
  have e2 : M * (32 * N) = 32 * (M * N) := by ac_rfl
  omega
theorem abs_near {r : List Int} (hr : r ∈ RR) {c : Num} (hc : NumC (dg r) c) {D C : Int} (hD : 1 ≤ D) (hC : 1 ≤ C) (hDC : C * D ≤ 1000) (hD2 : D ≤ 1000) (hcd : c.2 ∣ C) {xs ys : List Num} {M N : Nat} (X : RowS r D xs) (Y : RowS r D ys) (mc : Abs 3 c.1) (mx : AbsR M xs) (my : AbsR N ys) : AbsR (1000 * M + 1000 * (512 * (3 * N))) (nearL r c xs ys) := fun n hn => by
  obtain ⟨i, hi⟩ := List.getElem?_of_mem hn
  obtain ⟨x, y, e1, e2, rfl⟩ := nearL_get hi
  have m1 := List.mem_of_getElem? e1
  have m2 := List.mem_of_getElem? e2
  have cx := X.c.num x m1
  have cy := Y.c.num y m2
  have bx := Int.le_of_dvd (by omega) (X.d x m1)
  have pd : (prodL (ordL r) c y).2 ∣ C * D := Int.dvd_trans (low_dvd _ _ (mul1 hc.pos cy.pos)) (Int.mul_dvd_mul hcd (Y.d y m2))
  have pl := Int.le_of_dvd (by have := mul1 hC hD; omega) pd
  exact abs_sum cx (numC_prod hr hc cy) (by omega) (by omega) (mx x m1) (abs_prod hr hc cy mc (my y m2))
end K09

/-! The text by places; heaps. -/
namespace K09
open PySem PySem.Spec PyProof.Rows L2
def top (i : Nat) : Stmt := PySem.Challenge.pw_ringvoices_k09_whole_loudness_subgroups.main.body.getD i (.Pass ⟨0, 0, 0, 0⟩)
abbrev sUnits : Stmt := top 18
abbrev sPrimes : Stmt := top 19
abbrev sPlaces : Stmt := top 12
abbrev sOrder : Stmt := top 13
abbrev sPaired : Stmt := top 16
abbrev sPoly : Stmt := top 21
abbrev sStr : Stmt := top 22
abbrev sDiv : Stmt := top 23
abbrev sRed : Stmt := top 24
abbrev sFInit : Stmt := inClass (top 30) 0
abbrev sFPair : Stmt := inClass (top 30) 1
abbrev sIsInt : Stmt := top 32
abbrev sIsInts : Stmt := top 33
abbrev sAre : Stmt := top 51
abbrev sSize : Stmt := top 52
abbrev sChkR : Stmt := top 53
abbrev sIsPl : Stmt := top 54
abbrev sChkP : Stmt := top 55
abbrev sOrdOf : Stmt := top 58
abbrev sMulP : Stmt := top 25
abbrev sLow : Stmt := top 28
abbrev sIsOrd : Stmt := top 37
abbrev sChkO : Stmt := top 38
abbrev sChkN : Stmt := top 39
abbrev sIsNum : Stmt := top 40
abbrev sTimes : Stmt := top 44
abbrev sProd : Stmt := top 45
abbrev sSizeOf : Stmt := top 57
abbrev sLev : Stmt := top 63
abbrev sTSum : Stmt := top 64
abbrev sVOf : Stmt := top 65
abbrev sIsRow : Stmt := top 68
abbrev sChkRow : Stmt := top 70
abbrev sVoices : Stmt := top 74
abbrev sFTops : Stmt := inClass (top 30) 2
abbrev sDeck : Stmt := top 81
abbrev sDraw : Stmt := top 82
abbrev sPick : Stmt := top 83
abbrev sLGcd : Stmt := top 84
abbrev sLOrder : Stmt := top 85
abbrev sLPlaces : Stmt := top 86
abbrev sLRing : Stmt := top 87
abbrev sLMade : Stmt := top 88
abbrev sLRings : Stmt := top 89
abbrev sLNumber : Stmt := top 90
abbrev sLRow : Stmt := top 91
abbrev sLaw : Stmt := top 94
abbrev sAdd : Stmt := top 14
abbrev sRep : Stmt := top 15
abbrev sSpread : Stmt := top 26
abbrev sExT : Stmt := top 27
abbrev sTurn : Stmt := top 41
abbrev sPairing : Stmt := top 59
abbrev sMoved : Stmt := top 78
abbrev sLaid : Stmt := top 79
abbrev sLBeside : Stmt := top 93
abbrev sLLoud : Stmt := top 92
abbrev sSubgroup : Stmt := top 61
abbrev sIsLot : Stmt := top 60
abbrev sChkLot : Stmt := top 56
abbrev sLifted : Stmt := top 47
abbrev sLoud : Stmt := top 46
abbrev sIsAsc : Stmt := top 34
abbrev sVoice : Stmt := top 73
abbrev sSounding : Stmt := top 75
abbrev sSome : Stmt := top 76
abbrev sRowOf : Stmt := top 72
abbrev sSumN : Stmt := top 43
abbrev sPlus : Stmt := top 42
abbrev sIsZero : Stmt := top 66
abbrev sIsWhole : Stmt := top 69
abbrev sChkWhole : Stmt := top 71
abbrev sFSeats : Stmt := inClass (top 30) 4
abbrev FnP (K : PySem.W.Frag) (x : Str) (st : Stmt) (f : Addr) (fd : FuncData) : Prop := FunD K x x (defArgs st) (defBody st) (defScope st) [] [] f fd
def blt : List Str := ["int", "bool", "list", "len", "isinstance", "tuple", "abs", "max", "min", "range", "repr", "sum", "all", "sorted", "set", "enumerate", "zip"]
/-- the names that the module leaves to the built-ins -/
def Bl (mg : Str → Option Value) : Prop := ∀ x ∈ blt, mg x = none
/-! ### heaps -/
theorem same_new {H H1 : Hp} {p : Addr} {o : HO} (e : Same H H1) (h : H1 p = none) : Same H (upd H1 p o) := fun b u q => by
  have q1 := e b u q
  rw [upd_ne (ne_of_none q1 h)]
  exact q1
theorem same_at {H H1 : Hp} {p : Addr} {o : HO} (e : Same H H1) (h : H p = none) : Same H (upd H1 p o) := fun b u q => by
  rw [upd_ne (ne_of_none q h)]
  exact e b u q
theorem same_upd {H : Hp} {p : Addr} {o : HO} (h : H p = none) : Same H (upd H p o) := same_new (Same.refl H) h
theorem SqT.ext {K : PySem.W.Frag} {H H' : Hp} {a : Addr} {xs : List V} (h : SqT K H a xs) (e : Same H H') : SqT K H' a xs := by
  rcases h with h | h
  · rcases h with h | ⟨o, h⟩
    · exact .inl (.inl (e _ _ h))
    · exact .inl (.inr ⟨o, e _ _ h⟩)
  · exact .inr h
theorem _root_.L2.Same.tup {K : PySem.W.Frag} {H H' : Hp} {a : Addr} {xs : List V} (e : Same H H') (h : SqT K H a xs) : SqT K H' a xs := SqT.ext h e
theorem _root_.L2.Same.tupI {K : PySem.W.Frag} {H H' : Hp} {v : V} {ns : List Int} (e : Same H H') (h : TupI K H v ns) : TupI K H' v ns := by
  obtain ⟨t, rfl, q⟩ := h
  exact ⟨t, rfl, SqT.ext q e⟩
theorem tupI_of {K : PySem.W.Frag} {H : Hp} {p : Addr} {ns : List Int} (h : H p = some (.tup (ns.map V.int))) : TupI K H (.ref p) ns := ⟨p, rfl, SqT.of h⟩
/-- tuples of ints, at their addresses -/
abbrev TL (K : PySem.W.Frag) (H : Hp) (ks : List (Addr × List Int)) : Prop := ∀ p ∈ ks, SqT K H p.1 (p.2.map V.int)
abbrev rf (ks : List (Addr × List Int)) : List V := ks.map fun p => V.ref p.1
theorem _root_.L2.Same.tl {K : PySem.W.Frag} {H H' : Hp} {ks : List (Addr × List Int)} (e : Same H H') (h : TL K H ks) : TL K H' ks := fun p hp => SqT.ext (h p hp) e
theorem tl_nil {K : PySem.W.Frag} {H : Hp} : TL K H [] := fun p hp => absurd hp (by simp)
theorem tl_snoc {K : PySem.W.Frag} {H : Hp} {ks : List (Addr × List Int)} {a : Addr} {ns : List Int} (h : TL K H ks) (q : SqT K H a (ns.map V.int)) : TL K H (ks ++ [(a, ns)]) := fun p hp => by
  rcases List.mem_append.mp hp with z | z
  · exact h p z
  · rw [List.mem_singleton.mp z]
    exact q
theorem sqt_at {K : PySem.W.Frag} {H : Hp} {a D : Addr} {xs ys : List V} {o : HO} (h : SqT K H a xs) (hD : H D = some (.lst ys)) : SqT K (upd H D o) a xs := by
  rcases h with h | h
  · rcases h with h | ⟨u, h⟩
    · exact .inl (.inl (by rw [upd_ne (ne_of h hD (by intro z; cases z))]; exact h))
    · exact .inl (.inr ⟨u, by rw [upd_ne (ne_of h hD (by intro z; cases z))]; exact h⟩)
  · exact .inr h
theorem tl_at {K : PySem.W.Frag} {H : Hp} {D : Addr} {ks : List (Addr × List Int)} {ys : List V} {o : HO} (h : TL K H ks) (hD : H D = some (.lst ys)) : TL K (upd H D o) ks := fun p hp => sqt_at (h p hp) hD
/-- tuples of ints that stand at their addresses as they are (fit to be keys) -/
structure TP (K : PySem.W.Frag) (H : Hp) (ks : List (Addr × List Int)) : Prop where
  out : ∀ p ∈ ks, H p.1 = some (.tup (p.2.map V.int))
theorem TP.tl {K : PySem.W.Frag} {H : Hp} {ks : List (Addr × List Int)} (h : TP K H ks) : ∀ p ∈ ks, SqT K H p.1 (p.2.map V.int) := fun p hp => SqT.of (h.out p hp)
instance {K : PySem.W.Frag} {H : Hp} {ks : List (Addr × List Int)} : CoeFun (TP K H ks) (fun _ => ∀ p ∈ ks, SqT K H p.1 (p.2.map V.int)) := ⟨TP.tl⟩
theorem tp_same {K : PySem.W.Frag} {H H' : Hp} {ks : List (Addr × List Int)} (e : Same H H') (h : TP K H ks) : TP K H' ks := ⟨fun p hp => e _ _ (h.out p hp)⟩
theorem tp_nil {K : PySem.W.Frag} {H : Hp} : TP K H [] := ⟨fun p hp => absurd hp (by simp)⟩
theorem tp_snoc {K : PySem.W.Frag} {H : Hp} {ks : List (Addr × List Int)} {a : Addr} {ns : List Int} (h : TP K H ks) (q : H a = some (.tup (ns.map V.int))) : TP K H (ks ++ [(a, ns)]) := ⟨fun p hp => by
  rcases List.mem_append.mp hp with z | z
  · exact h.out p z
  · rw [List.mem_singleton.mp z]
    exact q⟩
theorem tp_at {K : PySem.W.Frag} {H : Hp} {D : Addr} {ks : List (Addr × List Int)} {ys : List V} {o : HO} (h : TP K H ks) (hD : H D = some (.lst ys)) : TP K (upd H D o) ks := ⟨fun p hp => by
  rw [upd_ne (ne_of (h.out p hp) hD (by intro z; cases z))]
  exact h.out p hp⟩
/-- a list of places, at a -/
def PlL (K : PySem.W.Frag) (H : Hp) (a : Addr) (ps : List (List Int)) : Prop := ∃ ks, H a = some (.lst (rf ks)) ∧ ks.map (·.2) = ps ∧ TP K H ks
theorem _root_.L2.Same.pll {K : PySem.W.Frag} {H H' : Hp} {a : Addr} {ps : List (List Int)} (e : Same H H') (h : PlL K H a ps) : PlL K H' a ps := by
  obtain ⟨ks, h1, h2, h3⟩ := h
  exact ⟨ks, e _ _ h1, h2, tp_same e h3⟩
theorem getI {ns : List Int} {i : Nat} {y : V} (h : (ns.map V.int)[i]? = some y) : ∃ c, y = V.int c ∧ ns[i]? = some c := by
  rw [List.getElem?_map] at h
  cases e : ns[i]? with
  | none =>
    rw [e] at h
    cases h
  | some c =>
    rw [e] at h
    exact ⟨c, (Option.some.inj h).symm, rfl⟩
theorem getR {ks : List (Addr × List Int)} {i : Nat} {y : V} (h : (rf ks)[i]? = some y) : ∃ p, y = V.ref p.1 ∧ ks[i]? = some p := by
  rw [List.getElem?_map] at h
  cases e : ks[i]? with
  | none =>
    rw [e] at h
    cases h
  | some c =>
    rw [e] at h
    exact ⟨c, (Option.some.inj h).symm, rfl⟩
theorem ofI {ns : List Int} {i : Nat} {c : Int} (h : ns[i]? = some c) : (ns.map V.int)[i]? = some (V.int c) := by
  rw [List.getElem?_map, h]
  rfl
theorem takeS {α : Type} {l : List α} {i : Nat} {x : α} (h : l[i]? = some x) : l.take (i + 1) = l.take i ++ [x] := by
  rw [List.take_succ, h]
  rfl
theorem ltL {α : Type} {l : List α} {i : Nat} {x : α} (h : l[i]? = some x) : i < l.length := (List.getElem?_eq_some_iff.mp h).1
theorem sl_1000 {n : Nat} (h : n ≤ 100000) : n ≤ sizeLine := by
  rw [sizeLine_eq]
  omega
theorem sl_lt {n : Nat} (h : n ≤ 100000) : n < sizeLine := by
  rw [sizeLine_eq]
  omega
end K09

/-! The head, in pieces. -/
namespace K09
open PySem PySem.Spec PyProof.Rows L2
open_top hd0 for PySem.Challenge.rw_ringvoices_k09_whole_loudness_subgroups
end K09

namespace K09
open PySem PySem.Spec PyProof.Rows L2
section
variable {P : Program} {w : World} {K : PySem.W.Frag} {mg : Str → Option Value} {base : Heap} {f : Addr} {fd : FuncData}
theorem eqI {a b : Int} (c : decide (V.int a = V.int b) = true) : a = b := V.int.inj (of_decide_eq_true c)
theorem neI {a b : Int} (c : ¬ decide (V.int a = V.int b) = true) : ¬ a = b := fun e => c (by rw [e]; exact decide_eq_true rfl)
/-! ### units_of -/
def spUnits : Sp := fun vs H Q _ => ∃ e : Int, vs = [.int e] ∧ 1 ≤ e ∧ e ≤ 60 ∧ ∀ p H', Same H H' → H p = none → H' p = some (.lst ((unitsL e).map V.int)) → Q (.ref p) H'
theorem scUnits : FnScope ["order", "j"] ["order"] (defScope sUnits) := ⟨rfl, rfl, rfl, by decide +kernel, rfl, by decide +kernel, by decide +kernel⟩
theorem rgF_succ (p : Int → Bool) (lo : Int) (n : Nat) : (rgL lo (n + 1)).filter p = if p (lo + (n : Int)) = true then (rgL lo n).filter p ++ [lo + (n : Int)] else (rgL lo n).filter p := by
  rw [rgL_succ, List.filter_append]
  by_cases h : p (lo + (n : Int)) = true
  · rw [if_pos h]
    simp [h]
  · rw [if_neg h]
    simp [h]
theorem ok_units (F : FnP K "units_of" sUnits f fd) (B : Bl mg) (gG : mg "gcd" = some (.builtin "math.gcd")) : FnOk P w K mg base CX0 1 f fd ["order"] spUnits := by
  refine F.ok scUnits (fun vs H Q E h => ?_) (fun cdv A outer s H vs Q E hr h => ?_)
  · obtain ⟨e, rfl, _⟩ := h
    rfl
  · obtain ⟨e, rfl, h1, h2, k⟩ := h
    refine ⟨_, PSs.nox (pss_one (ps_ret (pe_lc (own := [("j", 1)]) (g := gName 1) (te := tVar 1) rfl scUnits.nd (pi_range2 rfl (B "range" (by decide +kernel)) (pa_cons pe_int (pa_cons (pe_op op_add (pv 0) pe_int) pa_nil)))
      (blkOk_by (own := [("j", 1)]) (N := ["order", "j"]) (sc := defScope sUnits) (by decide +kernel)) (fun _ _ _ _ _ => pg_name (i := 1) scUnits.nd rfl (Or.inl rfl)) (fun _ _ _ _ _ => pts_one (pt_cmpR op_eq (pe_callBfun cr_gcd rfl gG (pa_cons (pv 1) (pa_cons (pv 0) pa_nil))) pe_int (nomark _))) (fun _ _ _ _ _ => pv 1)))), ?_⟩
    refine ⟨_, rfl, _, _, rfl, rfl, 1, e + 1, rfl, ⟨by omega, by omega, by omega, by omega⟩, fun D hD => ?_⟩
    have en : (e + 1 - 1).toNat = e.toNat := by
      congr 1
      omega
    rw [en]
    refine lc_range (lo := 1) (n := e.toNat) (fun i H2 => Same H H2 ∧ H2 D = some (.lst (((rgL 1 i).filter fun j => decide (gcdI j e = 1)).map V.int))) ⟨same_upd hD, upd_same⟩ ?_ ?_
    · rintro i H2 hi ⟨s2, h2⟩
      refine ⟨rfl, _, rfl, _, rfl, _, _, rfl, rfl, _, rfl, ?_⟩
      refine ite2 (fun c => ?_) (fun c => ?_)
      · have c1 : gcdI (1 + (i : Int)) e = 1 := eqI c
        refine ⟨_, rfl, _, h2, sl_lt ?_, same_at s2 hD, ?_⟩
        · rw [List.length_map]
          exact Nat.le_trans (List.length_filter_le _ _) (by rw [rgL_len]; omega)
        · rw [upd_same, rgF_succ, if_pos (decide_eq_true c1), List.map_append]
          rfl
      · have c1 : ¬ gcdI (1 + (i : Int)) e = 1 := neI c
        exact ⟨s2, by rw [rgF_succ, if_neg (by simp [c1])]; exact h2⟩
    · rintro H2 ⟨s2, h2⟩
      exact k D H2 s2 hD h2
end
end K09

namespace K09
open PySem PySem.Spec PyProof.Rows L2
abbrev rMod : R2 := rI (fun _ j => 0 < j) fun i j => .int (i % j)
abbrev rMul : R2 := rI CMul fun i j => .int (i * j)
abbrev rFdv : R2 := rI CDiv fun i j => .int (i / j)
abbrev rPlus : R2 := rI0 fun i j => .int (i + j)
abbrev rMinus : R2 := rI0 fun i j => .int (i - j)
section
variable {X : Cx}
def rLcm : List V → Hp → VK → Prop := fun vs H Q => ∃ a b : Int, vs = [.int a, .int b] ∧ a.natAbs < 2 ^ 64 ∧ b.natAbs < 2 ^ 64 ∧ (lcmI a b).natAbs ≤ 1000 ∧ Q (.int (lcmI a b)) H
theorem cr_lcm : CallR X (.builtin "math.lcm") rLcm := by
  intro pins s σ H vs us Q I r h
  obtain ⟨a, b, rfl, h1, h2, h3, q⟩ := h
  obtain ⟨t, u, rfl⟩ := Vals.int2 r
  exact PySem.W.mg_lcm h1 h2 (Nat.lt_of_le_of_lt (Nat.le_trans (Nat.log2_le_self _) h3) (by decide)) ⟨.int _, H, I.tok _, ⟨_, rfl⟩, q⟩
end
/-! ### facts of the fourteen rings -/
theorem rr_ord : ∀ r ∈ RR, ∀ i ∈ List.range (r.length + 1), (ordL (r.take i)).natAbs ≤ 60 := by decide +kernel
theorem rr_pos : ∀ r ∈ RR, ∀ l ∈ r, 2 ≤ l ∧ l ≤ 60 := by decide +kernel
theorem rr_len : ∀ r ∈ RR, 1 ≤ r.length ∧ r.length ≤ 4 := by decide +kernel
section
variable {P : Program} {w : World} {K : PySem.W.Frag} {mg : Str → Option Value} {base : Heap} {f : Addr} {fd : FuncData}
/-! ### common_order -/
def spOrder (K : PySem.W.Frag) : Sp := fun vs H Q _ => ∃ (v : V) (r : List Int), vs = [v] ∧ TupI K H v r ∧ r ∈ RR ∧ ∀ H', Same H H' → Q (.int (ordL r)) H'
theorem scOrder : FnScope ["rings", "order", "length"] ["rings"] (defScope sOrder) := ⟨rfl, rfl, rfl, by decide +kernel, rfl, by decide +kernel, by decide +kernel⟩
theorem ord_take {r : List Int} {i : Nat} {x : Int} (h : r[i]? = some x) : ordL (r.take (i + 1)) = lcmI (ordL (r.take i)) x := by
  rw [takeS h]
  unfold ordL
  rw [List.foldl_append]
  rfl
theorem ok_order (F : FnP K "common_order" sOrder f fd) (B : Bl mg) (gL : mg "lcm" = some (.builtin "math.lcm")) : FnOk P w K mg base CX0 1 f fd ["rings"] (spOrder K) := by
  refine F.ok scOrder (fun vs H Q E h => ?_) (fun cdv A outer s H vs Q E hr h => ?_)
  · obtain ⟨v, r, rfl, _⟩ := h
    rfl
  · obtain ⟨v, r, rfl, ⟨a, rfl, ha⟩, h14, k⟩ := h
    refine ⟨_, PSs.nox (pss_cons (ps_set (i := 1) scOrder.nd rfl (Or.inl rfl) pe_int)
      (pss_cons (ps_for PassesOwn.never rfl (pi_tup (pv 0)) (pg_name (i := 2) scOrder.nd rfl (Or.inl rfl)) (pss_one (ps_set (i := 1) scOrder.nd rfl (Or.inl rfl) (pe_callBfun cr_lcm rfl gL (pa_cons (pv 1) (pa_cons (pv 2) pa_nil))))))
      (pss_one (ps_ret (pv 1))))), ?_⟩
    refine ⟨_, rfl, a, rfl, ⟨_, ha⟩, for_tup (K := K) (a := a) (xs := r.map V.int) (fun i σ H2 => ∃ u, σ = [some (.ref a), some (.int (ordL (r.take i))), u] ∧ H2 = H) ⟨none, rfl, rfl⟩ (fun i σ H2 _ ⟨_, _, e⟩ => by rw [e]; exact ha) ?_ ?_⟩
    · rintro i y σ H2 hi ⟨u, rfl, rfl⟩
      obtain ⟨c, rfl, hc⟩ := getI hi
      have hl := ltL hc
      have hb := rr_pos r h14 c (List.mem_of_getElem? hc)
      have h1 := rr_ord r h14 i (List.mem_range.mpr (by omega))
      have h2 := rr_ord r h14 (i + 1) (List.mem_range.mpr (by omega))
      rw [ord_take hc] at h2
      exact ⟨_, rfl, _, rfl, _, _, rfl, by omega, by omega, by omega, some (.int c), by rw [ord_take hc]; rfl, rfl⟩
    · rintro σ H2 ⟨u, rfl, rfl⟩
      refine ⟨_, rfl, ?_⟩
      rw [List.length_map, List.take_length]
      exact k _ (Same.refl _)
/-! ### repeated -/
def spRep (K : PySem.W.Frag) : Sp := fun vs H Q _ => ∃ (v u : V) (r p : List Int) (j : Int), vs = [v, u, .int j] ∧ TupI K H v r ∧ TupI K H u p ∧ r ∈ RR ∧ p.length = r.length ∧ -1000 ≤ j ∧ j ≤ 1000 ∧ ∀ t H', Same H H' → H t = none → H' t = some (.tup ((repL r p j).map V.int)) → Q (.ref t) H'
theorem scRep : FnScope ["rings", "place", "many", "k"] ["rings", "place", "many"] (defScope sRep) := ⟨rfl, rfl, rfl, by decide +kernel, rfl, by decide +kernel, by decide +kernel⟩
theorem getD_of {l : List Int} {i : Nat} (h : i < l.length) : (l.map V.int)[i]? = some (V.int (l.getD i 0)) := by
  refine ofI ?_
  rw [List.getElem?_eq_getElem h, List.getD_eq_getElem?_getD, List.getElem?_eq_getElem h]
  rfl
theorem rr_get {r : List Int} (h : r ∈ RR) {i : Nat} (hi : i < r.length) : 2 ≤ r.getD i 0 ∧ r.getD i 0 ≤ 60 := by
  rw [List.getD_eq_getElem?_getD, List.getElem?_eq_getElem hi]
  exact rr_pos r h _ (List.getElem_mem hi)
theorem ok_rep (F : FnP K "repeated" sRep f fd) (B : Bl mg) : FnOk P w K mg base CX0 1 f fd ["rings", "place", "many"] (spRep K) := by
  refine F.ok scRep (fun vs H Q E h => ?_) (fun cdv A outer s H vs Q E hr h => ?_)
  · obtain ⟨v, u, r, p, j, rfl, _⟩ := h
    rfl
  · obtain ⟨v, u, r, p, j, rfl, ⟨a, rfl, ha⟩, ⟨b, rfl, hb⟩, h14, hl, j1, j2, k⟩ := h
    refine ⟨_, PSs.nox (pss_one (ps_ret (pe_callTy call_tuple_of (by rfl) (B "tuple" (by decide +kernel)) (by decide +kernel) (pa_cons
      (pe_lc (own := [("k", 3)]) (g := gName 3) (tt := tYes) (te := tOp rMod (tOp rMul (tOp (rIxT K) (tVar 1) (tVar 3)) (tVar 2)) (tOp (rIxT K) (tVar 0) (tVar 3))) rfl scRep.nd (pi_range1 rfl (B "range" (by decide +kernel)) (pa_cons (pe_callB call_len_seq (by rfl) (B "len" (by decide +kernel)) PySem.boot_len (pa_cons (pv 0) pa_nil)) pa_nil))
        (blkOk_by (own := [("k", 3)]) (N := ["rings", "place", "many", "k"]) (sc := defScope sRep) (by decide +kernel)) (fun _ _ _ _ _ => pg_name (i := 3) scRep.nd rfl (Or.inl rfl)) (fun _ _ _ _ _ => pts_nil) (fun _ _ _ _ _ => pe_op op_mod (pe_op op_mul (pe_ix ix_tup (pv 1) (pv 3) (fun _ _ => rfl)) (pv 2)) (pe_ix ix_tup (pv 0) (pv 3) (fun _ _ => rfl)))) pa_nil)))), ?_⟩
    have hn := rr_len r h14
    refine ⟨_, rfl, a, _, rfl, .inr ha, _, rfl, by rw [List.length_map]; omega, by rw [List.length_map]; omega, fun D hD => ?_⟩
    have en : ((r.map V.int).length : Int).toNat = r.length := by rw [List.length_map]; omega
    rw [en]
    have inv : ∀ n : Nat, n ≤ r.length → ((List.range n).map fun k => p.getD k 0 * j % r.getD k 0).length = n := fun n _ => by simp
    refine lc_range (lo := 0) (n := r.length) (fun i H2 => Same H H2 ∧ H2 D = some (.lst (((List.range i).map fun k => p.getD k 0 * j % r.getD k 0).map V.int))) ⟨same_upd hD, upd_same⟩ ?_ ?_
    · rintro i H2 hi ⟨s2, h2⟩
      have g := rr_get h14 hi
      have e0 : (0 : Int) + (i : Int) = (i : Int) := Int.zero_add _
      refine ⟨rfl, _, rfl, _, rfl, b, _, _, _, rfl, rfl, s2.tup hb, by rw [e0]; exact atI_nat (getD_of (by omega)), _, rfl, _, _, rfl, rfl, Or.inr ⟨by omega, by omega⟩, _, rfl, _, rfl, a, _, _, _, rfl, rfl, s2.tup ha, by rw [e0]; exact atI_nat (getD_of hi), _, _, rfl, rfl, by omega, ?_⟩
      refine ⟨_, h2, sl_lt (by rw [List.length_map, List.length_map, List.length_range]; omega), same_at s2 hD, ?_⟩
      rw [upd_same, List.range_succ, List.map_append, List.map_append]
      rfl
    · rintro H2 ⟨s2, h2⟩
      refine ⟨D, _, rfl, .inl ⟨SqL.of h2, fun t ht => ?_⟩⟩
      exact k t _ (same_new s2 ht) (s2.free ht) upd_same
end
end K09

namespace K09
open PySem PySem.Spec PyProof.Rows L2
section
variable {P : Program} {w : World} {K : PySem.W.Frag} {mg : Str → Option Value} {base : Heap} {f : Addr} {fd : FuncData}
/-! ### paired -/
def spPaired (K : PySem.W.Frag) : Sp := fun vs H Q _ => ∃ (v u z : V) (r p l : List Int) (e : Int), vs = [v, .int e, u, z] ∧ TupI K H v r ∧ TupI K H u p ∧ TupI K H z l ∧ r ∈ RR ∧ p.length = r.length ∧ l.length = r.length ∧ (∀ x ∈ p, 0 ≤ x ∧ x < 60) ∧ (∀ x ∈ l, 0 ≤ x ∧ x < 60) ∧ 1 ≤ e ∧ e ≤ 60 ∧ Q (.int (pairL r e p l)) H
theorem scPaired : FnScope ["rings", "order", "place", "label", "total", "k"] ["rings", "order", "place", "label"] (defScope sPaired) := ⟨rfl, rfl, rfl, by decide +kernel, rfl, by decide +kernel, by decide +kernel⟩
theorem ok_paired (F : FnP K "paired" sPaired f fd) (B : Bl mg) : FnOk P w K mg base CX0 1 f fd ["rings", "order", "place", "label"] (spPaired K) := by
  refine F.ok scPaired (fun vs H Q E h => ?_) (fun cdv A outer s H vs Q E hr h => ?_)
  · obtain ⟨v, u, z, r, p, l, e, rfl, _⟩ := h
    rfl
  · obtain ⟨v, u, z, r, p, l, e, rfl, ⟨a, rfl, ha⟩, ⟨b, rfl, hb⟩, ⟨c, rfl, hc⟩, h14, hp, hl, bp, bl, e1, e2, k⟩ := h
    refine ⟨_, PSs.nox (pss_cons (ps_set (i := 4) scPaired.nd rfl (Or.inl rfl) pe_int)
      (pss_cons (ps_for PassesOwn.never rfl (pi_range1 rfl (B "range" (by decide +kernel)) (pa_cons (pe_callB call_len_seq (by rfl) (B "len" (by decide +kernel)) PySem.boot_len (pa_cons (pv 0) pa_nil)) pa_nil)) (pg_name (i := 5) scPaired.nd rfl (Or.inl rfl))
        (pss_one (ps_aug (i := 4) scPaired.nd rfl (Or.inl rfl) (pe_op op_mul (pe_op op_mul (pe_ix ix_tup (pv 2) (pv 5) (fun _ _ => rfl)) (pe_ix ix_tup (pv 3) (pv 5) (fun _ _ => rfl))) (pe_op op_fdiv (pv 1) (pe_ix ix_tup (pv 0) (pv 5) (fun _ _ => rfl)))) ip_add)))
      (pss_one (ps_ret (pe_op op_mod (pv 4) (pv 1)))))), ?_⟩
    have hn := rr_len r h14
    refine ⟨_, rfl, a, _, rfl, .inr ha, _, rfl, by rw [List.length_map]; omega, by rw [List.length_map]; omega, ?_⟩
    have en : ((r.map V.int).length : Int).toNat = r.length := by rw [List.length_map]; omega
    rw [en]
    refine for_range (lo := 0) (n := r.length) (fun i σ H2 => ∃ u, σ = [some (.ref a), some (.int e), some (.ref b), some (.ref c), some (.int (pairGo r e p l i)), u] ∧ H2 = H) ⟨none, rfl, rfl⟩ ?_ ?_
    · rintro i σ H2 hi ⟨u, rfl, rfl⟩
      have g := rr_get h14 hi
      have e0 : (0 : Int) + (i : Int) = (i : Int) := Int.zero_add _
      have gp : 0 ≤ p.getD i 0 ∧ p.getD i 0 < 60 := by
        rw [List.getD_eq_getElem?_getD, List.getElem?_eq_getElem (by omega : i < p.length)]
        exact bp _ (List.getElem_mem _)
      have gl : 0 ≤ l.getD i 0 ∧ l.getD i 0 < 60 := by
        rw [List.getD_eq_getElem?_getD, List.getElem?_eq_getElem (by omega : i < l.length)]
        exact bl _ (List.getElem_mem _)
      have g1 : 0 ≤ p.getD i 0 * l.getD i 0 := Int.mul_nonneg gp.1 gl.1
      have g2 : p.getD i 0 * l.getD i 0 ≤ 60 * 60 := Int.mul_le_mul (by omega) (by omega) (by omega) (by omega)
      refine ⟨_, rfl, _, rfl, _, rfl, b, _, _, _, rfl, rfl, hb, by rw [e0]; exact atI_nat (getD_of (by omega)), _, rfl, _, rfl, c, _, _, _, rfl, rfl, hc, by rw [e0]; exact atI_nat (getD_of (by omega)), _, _, rfl, rfl, Or.inl ⟨by omega, by omega⟩, _, rfl, _, rfl, _, rfl, a, _, _, _, rfl, rfl, ha, by rw [e0]; exact atI_nat (getD_of hi), _, _, rfl, rfl, ⟨by omega, by omega⟩, _, _, rfl, rfl, Or.inl ⟨by omega, by omega⟩, ?_⟩
      exact ⟨_, _, rfl, rfl, _, rfl, rfl⟩
    · rintro σ H2 ⟨u, rfl, rfl⟩
      exact ⟨_, rfl, _, rfl, _, _, rfl, rfl, by omega, k⟩
/-! ### primes_of -/
def spPrimes : Sp := fun vs H Q _ => ∃ e : Int, vs = [.int e] ∧ 1 ≤ e ∧ e ≤ 60 ∧ ∀ p H', Same H H' → H p = none → H' p = some (.lst ((primesL e).map V.int)) → Q (.ref p) H'
theorem scPrimes : FnScope ["number", "primes", "k", "prime"] ["number"] (defScope sPrimes) := ⟨rfl, rfl, rfl, by decide +kernel, rfl, by decide +kernel, by decide +kernel⟩
theorem primesGo_pos (n : Int) : ∀ i, ∀ p ∈ primesGo n i, 2 ≤ p
  | 0, p, h => absurd h (by simp [primesGo])
  | i + 1, p, h => by
    unfold primesGo at h
    split at h
    · rcases List.mem_append.mp h with z | z
      · exact primesGo_pos n i p z
      · have e := List.mem_singleton.mp z
        omega
    · exact primesGo_pos n i p h
theorem primesGo_len (n : Int) : ∀ i, (primesGo n i).length ≤ i
  | 0 => by simp [primesGo]
  | i + 1 => by
    have h := primesGo_len n i
    unfold primesGo
    split
    · rw [List.length_append]
      simp
      omega
    · omega
theorem neII {a b : Int} : (!decide (V.int a = V.int b)) = (!decide (a = b)) := by
  congr 1
  by_cases h : a = b
  · rw [h]
    simp
  · rw [decide_eq_false h, decide_eq_false (fun z => h (V.int.inj z))]
theorem ok_primes (F : FnP K "primes_of" sPrimes f fd) (B : Bl mg) : FnOk P w K mg base CX0 1 f fd ["number"] spPrimes := by
  refine F.ok scPrimes (fun vs H Q E h => ?_) (fun cdv A outer s H vs Q E hr h => ?_)
  · obtain ⟨e, rfl, _⟩ := h
    rfl
  · obtain ⟨e, rfl, h1, h2, k⟩ := h
    refine ⟨_, PSs.nox (pss_cons (ps_set (i := 1) scPrimes.nd rfl (Or.inl rfl) (pe_lst pa_nil))
      (pss_cons (ps_for PassesOwn.never rfl (pi_range2 rfl (B "range" (by decide +kernel)) (pa_cons pe_int (pa_cons (pe_op op_add (pv 0) pe_int) pa_nil))) (pg_name (i := 2) scPrimes.nd rfl (Or.inr rfl))
        (pss_one (ps_if (PW.pt (pw_and (pt_cmpR op_eq (pe_op op_mod (pv 0) (pv 2)) pe_int (nomark _)) (pw_and1 (pt_val (pe_callB (cr_all rfl) (by rfl) (B "all" (by decide +kernel)) (by decide +kernel) (pa_cons
            (pe_lc (own := [("prime", 3)]) (g := gName 3) (tt := tYes) (te := tOp rNe (tOp rMod (tVar 2) (tVar 3)) (tC (.int 0))) rfl scPrimes.nd (pi_list (pv 1)) (blkOk_by (own := [("prime", 3)]) (N := ["number", "primes", "k", "prime"]) (sc := defScope sPrimes) (by decide +kernel)) (fun _ _ _ _ _ => pg_name (i := 3) scPrimes.nd rfl (Or.inl rfl)) (fun _ _ _ _ _ => pts_nil) (fun _ _ _ _ _ => pe_cmpR op_ne (pe_op op_mod (pv 2) (pv 3)) pe_int (nomark _))) pa_nil))))))
          (pss_one (ps_expr (pe_bm PySem.F.plainAttrs_list PySem.F.slot_list_append PySem.F.type_list_append mt_append (pv 1) (pa_cons (pv 2) pa_nil)))) pss_nil)))
      (pss_one (ps_ret (pv 1))))), ?_⟩
    refine ⟨by decide, fun L hL => ?_⟩
    refine ⟨_, rfl, _, _, rfl, rfl, 2, e + 1, rfl, ⟨by omega, by omega, by omega, by omega⟩, ?_⟩
    refine for_range (lo := 2) (n := (e + 1 - 2).toNat) (fun i σ H2 => ∃ u, σ = [some (.int e), some (.ref L), u, none] ∧ Same H H2 ∧ H2 L = some (.lst ((primesGo e i).map V.int))) ⟨none, rfl, same_upd hL, upd_same⟩ ?_ ?_
    · rintro i σ H2 hi ⟨u, rfl, s2, h2'⟩
      refine ⟨_, rfl, _, rfl, _, _, rfl, rfl, by omega, rfl, _, rfl, ?_⟩
      have pl := primesGo_len e i
      refine ite2 (fun c => ?_) (fun c => ?_)
      · have c1 := eqI c
        refine ⟨_, rfl, L, rfl, ⟨_, SqL.of h2'⟩, fun D hD => ?_⟩
        refine lc_list (K := K) (a := L) (xs := (primesGo e i).map V.int) (fun m H3 => Same H2 H3 ∧ H3 D = some (.lst ((((primesGo e i).take m).map fun p => !decide ((2 + (i : Int)) % p = 0)).map V.bl))) ⟨same_upd hD, upd_same⟩ (fun m H3 _ ⟨s3, _⟩ => SqL.of (s3 _ _ h2')) ?_ ?_
        · rintro m y H3 hm ⟨s3, h3⟩
          obtain ⟨p, rfl, hp⟩ := getI hm
          have hp2 := primesGo_pos e i p (List.mem_of_getElem? hp)
          refine ⟨rfl, _, rfl, _, rfl, _, _, rfl, rfl, by omega, rfl, ?_⟩
          refine ⟨_, h3, sl_lt (by rw [List.length_map, List.length_map]; exact Nat.le_trans (List.length_take_le' _ _) (by omega)), same_at s3 hD, ?_⟩
          rw [upd_same, takeS hp, List.map_append, List.map_append, neII]
          rfl
        · rintro H3 ⟨s3, h3⟩
          rw [List.length_map, List.take_length] at h3
          refine ⟨D, _, rfl, SqL.of h3, _, rfl, ?_⟩
          refine ite2 (fun c2 => ?_) (fun c2 => ?_)
          · refine ⟨_, rfl, Or.inl ⟨rfl, _, SqL.of (s3 _ _ h2')⟩, _, rfl, L, _, _, rfl, rfl, s3 _ _ h2', sl_lt (by rw [List.length_map]; omega), ?_⟩
            refine ⟨_, rfl, same_at (s2.trans s3) hL, ?_⟩
            rw [upd_same]
            have e1 : primesGo e (i + 1) = primesGo e i ++ [2 + (i : Int)] := by
              show (if _ then _ else _) = _
              rw [if_pos]
              rw [Bool.and_eq_true]
              exact ⟨decide_eq_true c1, c2⟩
            rw [e1, List.map_append]
            rfl
          · refine ⟨_, rfl, s2.trans s3, ?_⟩
            have e1 : primesGo e (i + 1) = primesGo e i := by
              show (if _ then _ else _) = _
              rw [if_neg]
              rw [Bool.and_eq_true]
              exact fun z => c2 z.2
            rw [e1]
            exact s3 _ _ h2'
      · have c1 := neI c
        refine iteF ?_
        refine ⟨_, rfl, s2, ?_⟩
        have e1 : primesGo e (i + 1) = primesGo e i := by
          show (if _ then _ else _) = _
          rw [if_neg]
          rw [Bool.and_eq_true]
          exact fun z => c1 (of_decide_eq_true z.1)
        rw [e1]
        exact h2'
    · rintro σ H2 ⟨u, rfl, s2, h2'⟩
      exact ⟨_, rfl, k L H2 s2 hL h2'⟩
end
end K09

namespace K09
open PySem PySem.Spec PyProof.Rows L2
/-- a walk of a list, the turn left open -/
theorem out_list {K : PySem.W.Frag} {a : Addr} {xs : List V} {H0 : Hp} {Qd : Hp → Prop} {body : (Hp → Prop) → V → Hp → Prop} (Pv : Nat → Hp → Prop) (h0 : Pv 0 H0) (hl : ∀ i H, i ≤ xs.length → Pv i H → SqL K H a xs)
    (hs : ∀ i x H, xs[i]? = some x → Pv i H → body (Pv (i + 1)) x H) (hd : ∀ H, Pv xs.length H → Qd H) :
    ∃ W : Nat → Nat → Hp → Prop, (∃ m, W 0 m H0) ∧ ∀ i m H, W i m H →
      ((Itl K a).stop i H ∧ Qd H) ∨ ((Itl K a).go i H ∧ ∃ Nx : Hp → Prop, (∀ H', Nx H' → ∃ m', m' < m ∧ W (i + 1) m' H') ∧ ∀ x H', (Itl K a).yld i H x H' → body Nx x H') := by
  refine ⟨fun i m H => m = xs.length - i ∧ i ≤ xs.length ∧ Pv i H, ⟨xs.length, by simp, Nat.zero_le _, h0⟩, ?_⟩
  rintro i m H ⟨rfl, hi, p⟩
  have q := hl i H hi p
  by_cases hlt : i < xs.length
  · refine .inr ⟨⟨xs, xs[i], q, by simp [hlt]⟩, Pv (i + 1), fun H' p' => ⟨xs.length - (i + 1), by omega, rfl, hlt, p'⟩, fun x H' y => ?_⟩
    obtain ⟨e, y⟩ := y
    subst e
    exact hs i x _ (y xs q) p
  · have e : i = xs.length := by omega
    subst e
    exact .inl ⟨⟨xs, q, Nat.le_refl _⟩, hd H p⟩
/-- a walk of a range, the turn left open -/
theorem out_range {lo : Int} {n : Nat} {H0 : Hp} {Qd : Hp → Prop} {body : (Hp → Prop) → V → Hp → Prop} (Pv : Nat → Hp → Prop) (h0 : Pv 0 H0)
    (hs : ∀ i H, i < n → Pv i H → body (Pv (i + 1)) (.int (lo + (i : Int))) H) (hd : ∀ H, Pv n H → Qd H) :
    ∃ W : Nat → Nat → Hp → Prop, (∃ m, W 0 m H0) ∧ ∀ i m H, W i m H →
      ((Itr lo n).stop i H ∧ Qd H) ∨ ((Itr lo n).go i H ∧ ∃ Nx : Hp → Prop, (∀ H', Nx H' → ∃ m', m' < m ∧ W (i + 1) m' H') ∧ ∀ x H', (Itr lo n).yld i H x H' → body Nx x H') := by
  refine ⟨fun i m H => m = n - i ∧ i ≤ n ∧ Pv i H, ⟨n, by simp, Nat.zero_le _, h0⟩, ?_⟩
  rintro i m H ⟨rfl, hi, p⟩
  by_cases hlt : i < n
  · refine .inr ⟨hlt, Pv (i + 1), fun H' p' => ⟨n - (i + 1), by omega, rfl, hlt, p'⟩, fun x H' y => ?_⟩
    obtain ⟨e, y⟩ := y
    subst e y
    exact hs i _ hlt p
  · have e : i = n := by omega
    subst e
    exact .inl ⟨Nat.le_refl _, hd H p⟩
theorem plStep_len (ps : List (List Int)) (len : Int) : (plStep ps len).length = ps.length * len.toNat := by
  unfold plStep
  induction ps with
  | nil => simp
  | cons p r ih =>
    rw [List.flatMap_cons, List.length_append, ih, List.length_map, rgL_len, List.length_cons, Nat.succ_mul, Nat.add_comm]
theorem plStep_take {ps : List (List Int)} {len : Int} {i : Nat} {p : List Int} (h : ps[i]? = some p) : plStep (ps.take (i + 1)) len = plStep (ps.take i) len ++ (rgL 0 len.toNat).map fun x => p ++ [x] := by
  rw [takeS h]
  unfold plStep
  rw [List.flatMap_append]
  simp
theorem pl_take {r : List Int} {i : Nat} {x : Int} (h : r[i]? = some x) : placesL (r.take (i + 1)) = plStep (placesL (r.take i)) x := by
  rw [takeS h]
  unfold placesL
  rw [List.foldl_append]
  rfl
theorem rr_pl : ∀ r ∈ RR, ∀ i ∈ List.range (r.length + 1), (placesL (r.take i)).length ≤ 60 := by decide +kernel
theorem rr_plen : ∀ r ∈ RR, ∀ i ∈ List.range (r.length + 1), ∀ p ∈ placesL (r.take i), p.length = i := by decide +kernel
theorem rf_snoc {ks : List (Addr × List Int)} {p : Addr} {ns : List Int} : rf (ks ++ [(p, ns)]) = rf ks ++ [V.ref p] := by simp [rf]
theorem map_get {ks : List (Addr × List Int)} {ps : List (List Int)} {i : Nat} {q : Addr × List Int} (h : ks.map (·.2) = ps) (e : ks[i]? = some q) : ps[i]? = some q.2 := by
  rw [← h, List.getElem?_map, e]
  rfl
section
variable {P : Program} {w : World} {K : PySem.W.Frag} {mg : Str → Option Value} {base : Heap} {f : Addr} {fd : FuncData}
def spPlaces (K : PySem.W.Frag) : Sp := fun vs H Q _ => ∃ (v : V) (r : List Int), vs = [v] ∧ TupI K H v r ∧ r ∈ RR ∧ ∀ p H', Same H H' → H p = none → PlL K H' p (placesL r) → Q (.ref p) H'
theorem scPlaces : FnScope ["rings", "places", "length", "place", "item"] ["rings"] (defScope sPlaces) := ⟨rfl, rfl, rfl, by decide +kernel, rfl, by decide +kernel, by decide +kernel⟩
theorem ok_places (F : FnP K "list_places" sPlaces f fd) (B : Bl mg) : FnOk P w K mg base CX0 1 f fd ["rings"] (spPlaces K) := by
  refine F.ok scPlaces (fun vs H Q E h => ?_) (fun cdv A outer s H vs Q E hr h => ?_)
  · obtain ⟨v, r, rfl, _⟩ := h
    rfl
  · obtain ⟨v, r, rfl, ⟨a, rfl, ha⟩, h14, k⟩ := h
    refine ⟨_, PSs.nox (pss_cons (ps_set (i := 1) scPlaces.nd rfl (Or.inl rfl) (pe_lst (pa_cons (pe_tup pa_nil) pa_nil)))
      (pss_cons (ps_for PassesOwn.never rfl (pi_tup (pv 0)) (pg_name (i := 2) scPlaces.nd rfl (Or.inr rfl))
        (pss_one (ps_setLc2 (i := 1) (own := [("place", 3), ("item", 4)]) (vs1 := [4]) (g := gName 3) (tt := tYes) (wi1 := iRng1 (tCons (tVar 2) tNil)) (g1 := gName 4) (tt1 := tYes) (te := tTup (StX.tStar K (tVar 3) (tCons (tVar 4) tNil))) rfl scPlaces.nd rfl rfl (sw_true rfl rfl rfl (by decide +kernel)) (pi_list (pv 1))
          (blkOk_by (own := [("place", 3), ("item", 4)]) (N := ["rings", "places", "length", "place", "item"]) (sc := defScope sPlaces) (by decide +kernel)) (by decide)
          (fun _ _ _ _ _ => pg_name (i := 3) scPlaces.nd rfl (Or.inl rfl)) (fun _ _ _ _ _ => pts_nil)
          (fun _ _ _ _ _ => pi_range1 rfl (B "range" (by decide +kernel)) (pa_cons (pv 2) pa_nil)) (fun _ _ _ _ _ => pg_name (i := 4) scPlaces.nd rfl (Or.inl rfl)) (fun _ _ _ _ _ => pts_nil)
          (fun _ _ _ _ _ => pe_tup (StX.pa_star (pv 3) (pa_cons (pv 4) pa_nil))))))
      (pss_one (ps_ret (pv 1))))), ?_⟩
    refine ⟨by decide, fun t ht => ⟨by show 1 ≤ sizeLine; decide, fun L hL => ?_⟩⟩
    have s0 : Same H (upd (upd H t (.tup [])) L (.lst [.ref t])) := same_new (same_upd ht) hL
    have nL : H L = none := (same_upd (o := HO.tup []) ht).free hL
    refine ⟨_, rfl, a, rfl, ⟨_, s0.tup ha⟩, for_tup (K := K) (a := a) (xs := r.map V.int) (fun i σ H2 => ∃ (l : Addr) (u : Option V), σ = [some (.ref a), some (.ref l), u, none, none] ∧ H l = none ∧ Same H H2 ∧ PlL K H2 l (placesL (r.take i)))
      ⟨L, none, rfl, nL, s0, [(t, [])], upd_same, rfl, ⟨fun p hp => by rw [List.mem_singleton.mp hp]; exact same_upd hL _ _ upd_same⟩⟩ (fun i σ H2 _ ⟨_, _, _, _, s2, _⟩ => s2.tup ha) ?_ ?_⟩
    · rintro i y σ H2 hi ⟨l, u, rfl, nl, s2, ks, hk, em, tk⟩
      obtain ⟨c, rfl, hc⟩ := getI hi
      have hb := rr_pos r h14 c (List.mem_of_getElem? hc)
      have hlt := ltL hc
      have l1 := rr_pl r h14 i (List.mem_range.mpr (by omega))
      have l2 := rr_pl r h14 (i + 1) (List.mem_range.mpr (by omega))
      rw [pl_take hc] at l2
      refine ⟨_, rfl, l, rfl, ⟨_, SqL.of hk⟩, fun D hD => ?_⟩
      have nD : H D = none := s2.free hD
      refine out_list (K := K) (a := l) (xs := rf ks) (fun m H3 => Same H2 H3 ∧ PlL K H3 D (plStep ((placesL (r.take i)).take m) c)) ⟨same_upd hD, [], upd_same, rfl, tp_nil⟩ (fun m H3 _ ⟨s3, _⟩ => SqL.of (s3 _ _ hk)) ?_ ?_
      · rintro m y H3 hm ⟨s3, P3⟩
        obtain ⟨q, rfl, hq⟩ := getR hm
        have hq2 := map_get em hq
        have hq2' : ((placesL (r.take i))[m]? = some q.2) := hq2
        refine ⟨rfl, _, rfl, c, rfl, by omega, by omega, ?_⟩
        refine out_range (lo := 0) (n := c.toNat) (fun j H4 => Same H2 H4 ∧ PlL K H4 D (plStep ((placesL (r.take i)).take m) c ++ (rgL 0 j).map fun x => q.2 ++ [x])) ⟨s3, by simpa [rgL] using P3⟩ ?_ ?_
        · rintro j H4 hj ⟨s4, ks4, h4, e4, t4⟩
          refine ⟨rfl, _, rfl, q.1, _, rfl, .inl (s4.tup (tk q (List.mem_of_getElem? hq))), _, rfl, ?_, fun p hp => ?_⟩
          · have z := rr_len r h14
            have z1 : q.2.length = i := rr_plen r h14 i (List.mem_range.mpr (by omega)) _ (List.mem_of_getElem? hq2)
            rw [List.length_append, List.length_map]
            exact sl_1000 (by simp; omega)
          · have e5 : ks4.length ≤ 3700 := by
              have z := congrArg List.length e4
              rw [List.length_map, List.length_append, plStep_len, List.length_map, rgL_len] at z
              have z2 : ((placesL (r.take i)).take m).length ≤ 60 := Nat.le_trans (List.length_take_le' _ _) l1
              have z3 : ((placesL (r.take i)).take m).length * c.toNat ≤ 60 * 60 := Nat.mul_le_mul z2 (by omega)
              omega
            have h4p : upd H4 p (.tup (q.2.map V.int ++ [.int (0 + (j : Int))])) D = some (.lst (rf ks4)) := by rw [upd_ne (ne_of_none h4 hp)]; exact h4
            refine ⟨_, h4p, sl_lt (by rw [List.length_map]; omega), same_at (same_new s4 hp) hD, ks4 ++ [(p, q.2 ++ [0 + (j : Int)])], ?_, ?_, ?_⟩
            · rw [upd_same, rf_snoc]
            · rw [List.map_append, e4, rgL_succ, List.map_append, List.append_assoc]
              rfl
            · have sp : Same H4 (upd H4 p (.tup (q.2.map V.int ++ [.int (0 + (j : Int))]))) := same_upd hp
              have tl1 : TP K (upd H4 p (.tup (q.2.map V.int ++ [.int (0 + (j : Int))]))) (ks4 ++ [(p, q.2 ++ [0 + (j : Int)])]) := tp_snoc (tp_same sp t4) (by rw [upd_same, List.map_append]; rfl)
              exact tp_at tl1 h4p
        · rintro H4 ⟨s4, P4⟩
          refine ⟨s4, ?_⟩
          rw [plStep_take hq2]
          exact P4
      · rintro H3 ⟨s3, P3⟩
        refine ⟨D, _, rfl, nD, s2.trans s3, ?_⟩
        have e6 : (rf ks).length = (placesL (r.take i)).length := by rw [← em, List.length_map, List.length_map]
        rw [e6, List.take_length] at P3
        rw [pl_take hc]
        exact P3
    · rintro σ H2 ⟨l, u, rfl, nl, s2, P2⟩
      rw [List.length_map, List.take_length] at P2
      exact ⟨_, rfl, k l H2 s2 nl P2⟩
end
end K09

namespace K09
open PySem PySem.Spec PyProof.Rows L2
section
variable {P : Program} {w : World} {K : PySem.W.Frag} {mg : Str → Option Value} {base : Heap} {f : Addr} {fd : FuncData}
/-! ### _stretched -/
def spStr (K : PySem.W.Frag) : Sp := fun vs H Q _ => ∃ (a : Addr) (xs : List Int) (b : Nat), vs = [.ref a, .int (b : Int)] ∧ SqL K H a (xs.map V.int) ∧ 1 ≤ xs.length ∧ xs.length ≤ 100 ∧ 1 ≤ b ∧ b ≤ 100 ∧ ∀ p H', Same H H' → H p = none → H' p = some (.lst ((strL xs b).map V.int)) → Q (.ref p) H'
theorem scStr : FnScope ["items", "by", "stretched", "k", "item"] ["items", "by"] (defScope sStr) := ⟨rfl, rfl, rfl, by decide +kernel, rfl, by decide +kernel, by decide +kernel⟩
theorem strN_len (xs : List Int) (b : Nat) : ∀ i, (strN xs b i).length = (xs.length - 1) * b + 1
  | 0 => by simp [strN]
  | i + 1 => by
    unfold strN
    rw [List.length_set]
    exact strN_len xs b i
theorem ixN_nat {n j : Nat} (h : j < n) : ixN n (j : Int) = some j := by
  unfold ixN
  rw [if_pos (by omega), if_pos (by omega)]
  simp
theorem rep_flat (n : Nat) (x : V) : (List.replicate n [x]).flatten = List.replicate n x := by
  induction n with
  | zero => rfl
  | succ n ih => rw [List.replicate_succ, List.flatten_cons, ih, List.replicate_succ]; rfl
theorem ok_str (F : FnP K "_stretched" sStr f fd) (B : Bl mg) : FnOk P w K mg base CX0 1 f fd ["items", "by"] (spStr K) := by
  refine F.ok scStr (fun vs H Q E h => ?_) (fun cdv A outer s H vs Q E hr h => ?_)
  · obtain ⟨a, xs, b, rfl, _⟩ := h
    rfl
  · obtain ⟨a, xs, b, rfl, hS, l1, l2, b1, b2, k⟩ := h
    refine ⟨_, PSs.nox (pss_cons (ps_set (i := 2) scStr.nd rfl (Or.inl rfl) (pe_op op_rep (pe_lst (pa_cons pe_int pa_nil)) (pe_op op_add (pe_op op_mul (pe_op op_sub (pe_callB call_len_seq (by rfl) (B "len" (by decide +kernel)) PySem.boot_len (pa_cons (pv 0) pa_nil)) pe_int) (pv 1)) pe_int)))
      (pss_cons (ps_for PassesOwn.never rfl (pi_enum (by rfl) (B "enumerate" (by decide +kernel)) (pa_cons (pv 0) pa_nil)) (pg_tup rfl (pgs_cons (pg_name (i := 3) scStr.nd rfl (Or.inl rfl)) (pgs_cons (pg_name (i := 4) scStr.nd rfl (Or.inl rfl)) pgs_nil)))
        (pss_one (ps_asg (pv 4) (pg_sub (pv 2) (pe_op op_mul (pv 3) (pv 1)) set_list))))
      (pss_one (ps_ret (pv 2))))), ?_⟩
    refine ⟨by show 1 ≤ sizeLine; decide, fun z hz => ?_⟩
    have sz : Same H (upd H z (.lst [.int 0])) := same_upd hz
    have em : ((((xs.map V.int).length : Int) - 1) * (b : Int) + 1) = (((xs.length - 1) * b + 1 : Nat) : Int) := by
      rw [List.length_map]
      have e1 : ((xs.length : Int) - 1) = ((xs.length - 1 : Nat) : Int) := by omega
      rw [e1]
      push_cast
      rfl
    have hb : (xs.length - 1) * b ≤ 99 * 100 := Nat.mul_le_mul (by omega) b2
    refine ⟨_, rfl, a, _, rfl, .inl (sz.seq hS), _, _, rfl, rfl, _, rfl, _, _, rfl, rfl, Or.inl ⟨by rw [List.length_map]; omega, by rw [List.length_map]; omega⟩, _, _, rfl, rfl, z, _, _, rfl, rfl, upd_same, ?_⟩
    rw [em]
    refine ⟨by omega, by omega, ?_, fun D hD => ?_⟩
    · rw [Int.toNat_natCast]
      exact sl_1000 (by simp; omega)
    rw [Int.toNat_natCast, rep_flat]
    have nD : H D = none := sz.free hD
    have s1 : Same H (upd (upd H z (.lst [.int 0])) D (.lst (List.replicate ((xs.length - 1) * b + 1) (V.int 0)))) := same_new sz hD
    refine ⟨_, rfl, a, xs.map V.int, rfl, s1.seq hS, ?_⟩
    refine for_it (walk_enum (K := K) (a := a) (xs := xs.map V.int)) (fun i σ H2 => ∃ u v, σ = [some (.ref a), some (.int (b : Int)), some (.ref D), u, v] ∧ Same H H2 ∧ H2 D = some (.lst ((strN xs b i).map V.int))) ⟨none, none, rfl, s1, ?_⟩ (fun i σ H2 _ ⟨_, _, _, s2, _⟩ => s2.seq hS) ?_ ?_
    · rw [upd_same]
      simp [strN]
    · rintro i x σ H2 H3 hi ⟨u, v, rfl, s2, h2⟩ ⟨T, c, y, rfl, hT, rfl, ec, ey⟩
      obtain ⟨x, rfl, hx⟩ := getI ey
      obtain rfl := Option.some.inj ec
      rw [List.length_map] at hi
      have h3 : upd H2 T (.tup [.int (i : Int), .int x]) D = some (.lst ((strN xs b i).map V.int)) := by rw [upd_ne (ne_of_none h2 hT)]; exact h2
      have s3 : Same H (upd H2 T (.tup [.int (i : Int), .int x])) := same_new s2 hT
      refine ⟨T, _, rfl, SqT.of upd_same, rfl, _, _, rfl, _, _, rfl, rfl, ?_⟩
      have hib : i * b ≤ (xs.length - 1) * b := Nat.mul_le_mul (by omega) (Nat.le_refl _)
      have ee : (i : Int) * (b : Int) = ((i * b : Nat) : Int) := by push_cast; rfl
      refine ⟨_, rfl, _, rfl, _, rfl, _, rfl, _, _, rfl, rfl, Or.inl ⟨by omega, by omega⟩, D, _, _, i * b, rfl, rfl, h3, ?_, _, _, rfl, same_at s3 nD, ?_⟩
      · rw [ee, List.length_map, strN_len]
        exact ixN_nat (by omega)
      · rw [upd_same]
        have e4 : strN xs b (i + 1) = (strN xs b i).set (i * b) (xs.getD i 0) := rfl
        have e5 : xs.getD i 0 = x := by rw [List.getD_eq_getElem?_getD, hx]; rfl
        rw [e4, e5, List.map_set]
    · rintro σ H2 ⟨u, v, rfl, s2, h2⟩
      rw [List.length_map] at h2
      exact ⟨_, rfl, k D H2 s2 nD h2⟩
end
end K09

namespace K09
open PySem PySem.Spec PyProof.Rows L2
section
variable {X : Cx}
def rGetN (K : PySem.W.Frag) : V → V → Hp → VK → Prop := fun x y H Q => ∃ (p : Addr) (xs : List V) (j : Nat) (v : V), x = .ref p ∧ y = .int (j : Int) ∧ SqL K H p xs ∧ xs[j]? = some v ∧ Q v H
theorem get_list : PGet X (rGetN X.K) := by
  intro pins s σ H o i ov iv Q I r1 r2 h
  obtain ⟨p, xs, j, v, rfl, rfl, hq, he, q⟩ := h
  cases r1
  obtain ⟨t, rfl⟩ := r2
  obtain ⟨its, r, pl, hz⟩ := I.list hq
  obtain ⟨w, ew, rw'⟩ := r.get he
  have hj := ltL he
  have hn := line63
  exact wpAny_getItem_list pl.isList (by omega) (by omega) (by rw [Int.toNat_natCast]; simpa using ew) ⟨v, H, I, rw', q⟩
end
theorem subN_len (h : Int) (dv : List Int) (a : Nat) (r : List Int) : ∀ k, (subN h dv a r k).length = r.length
  | 0 => rfl
  | k + 1 => by
    unfold subN
    rw [List.length_set]
    exact subN_len h dv a r k
section
variable {P : Program} {w : World} {K : PySem.W.Frag} {mg : Str → Option Value} {base : Heap} {f : Addr} {fd : FuncData}
/-- a list or a tuple of ints -/
def SqI (K : PySem.W.Frag) (H : Hp) (a : Addr) (ns : List Int) : Prop := SqL K H a (ns.map V.int) ∨ SqT K H a (ns.map V.int)
theorem _root_.L2.Same.sqi {K : PySem.W.Frag} {H H' : Hp} {a : Addr} {ns : List Int} (e : Same H H') (h : SqI K H a ns) : SqI K H' a ns := h.imp (fun z => e.seq z) (fun z => e.tup z)
def spDiv (K : PySem.W.Frag) : Sp := fun vs H Q _ => ∃ (a b : Addr) (xs dv : List Int), vs = [.ref a, .ref b] ∧ SqL K H a (xs.map V.int) ∧ SqI K H b dv ∧ 1 ≤ dv.length ∧ dv.length ≤ 1000 ∧ xs.length ≤ 10000 ∧ (∀ d ∈ dv, -1000 ≤ d ∧ d ≤ 1000) ∧
  ∀ t q r H', Same H H' → H t = none → H q = none → H r = none → H' t = some (.tup [.ref q, .ref r]) → H' q = some (.lst ((divL xs dv).1.map V.int)) → H' r = some (.lst ((divL xs dv).2.map V.int)) → Q (.ref t) H'
theorem scDiv : FnScope ["items", "divisor", "degree", "rest", "quotient", "highest", "at", "k"] ["items", "divisor"] (defScope sDiv) := ⟨rfl, rfl, rfl, by decide +kernel, rfl, by decide +kernel, by decide +kernel⟩
theorem lastD {l : List Int} (h : 0 < l.length) : (l.map V.int)[(l.map V.int).length - 1]? = some (V.int (l.getLastD 0)) := by
  refine ofI ?_
  rw [List.length_map, List.getElem?_eq_getElem (by omega)]
  congr 1
  cases l with
  | nil => simp at h
  | cons x r => simp [List.getLastD, List.getLast_eq_getElem]
theorem ok_div (F : FnP K "_divided" sDiv f fd) (B : Bl mg) : FnOk P w K mg base CX0 1 f fd ["items", "divisor"] (spDiv K) := by
  refine F.ok scDiv (fun vs H Q E h => ?_) (fun cdv A outer s H vs Q E hr h => ?_)
  · obtain ⟨a, b, xs, dv, rfl, _⟩ := h
    rfl
  · obtain ⟨a, b, xs, dv, rfl, hS, hD, d1, d2, x1, db, k⟩ := h
    refine ⟨_, PSs.nox (pss_cons (ps_set (i := 2) scDiv.nd rfl (Or.inl rfl) (pe_op op_sub (pe_callB call_len_seq (by rfl) (B "len" (by decide +kernel)) PySem.boot_len (pa_cons (pv 1) pa_nil)) pe_int))
      (pss_cons (ps_set (i := 3) scDiv.nd rfl (Or.inl rfl) (pe_callTy call_list_of (by rfl) (B "list" (by decide +kernel)) (by decide +kernel) (pa_cons (pv 0) pa_nil)))
      (pss_cons (ps_set (i := 4) scDiv.nd rfl (Or.inl rfl) (pe_lst pa_nil))
      (pss_cons (ps_while PassesOwn.never (pt_cmpR op_gt (pe_callB call_len_seq (by rfl) (B "len" (by decide +kernel)) PySem.boot_len (pa_cons (pv 3) pa_nil)) (pv 2) (nomark _))
        (pss_cons (ps_set (i := 5) scDiv.nd rfl (Or.inl rfl) (pe_bm0 PySem.F.plainAttrs_list PySem.F.slot_list_pop PySem.F.type_list_pop mt_pop (pv 3)))
        (pss_cons (ps_expr (pe_bm PySem.F.plainAttrs_list PySem.F.slot_list_append PySem.F.type_list_append mt_append (pv 4) (pa_cons (pv 5) pa_nil)))
        (pss_cons (ps_set (i := 6) scDiv.nd rfl (Or.inl rfl) (pe_op op_sub (pe_callB call_len_seq (by rfl) (B "len" (by decide +kernel)) PySem.boot_len (pa_cons (pv 3) pa_nil)) (pv 2)))
        (pss_one (ps_for PassesOwn.never rfl (pi_range1 rfl (B "range" (by decide +kernel)) (pa_cons (pv 2) pa_nil)) (pg_name (i := 7) scDiv.nd rfl (Or.inl rfl))
          (pss_one (ps_augS (pv 3) (pe_op op_add (pv 6) (pv 7)) get_list (pe_op op_mul (pv 5) (pe_ix (IxR.or ix_list ix_tup) (pv 1) (pv 7) (fun _ _ => rfl))) ip_sub set_list))))))))
      (pss_one (ps_ret (pe_tup (pa_cons (pe_revL (pv 4)) (pa_cons (pv 3) pa_nil))))))))), ?_⟩
    have hbL : ∀ H2 : Hp, Same H H2 → SqL K H2 b (dv.map V.int) ∨ SqT K H2 b (dv.map V.int) := fun H2 e => e.sqi hD
    refine ⟨_, rfl, b, _, rfl, hbL H (Same.refl _), _, _, rfl, rfl, _, rfl, a, _, rfl, .inl hS, fun R hR => ⟨by decide, fun L hL => ?_⟩⟩
    have eg : ((dv.map V.int).length : Int) - 1 = ((dv.length - 1 : Nat) : Int) := by rw [List.length_map]; omega
    have sR : Same H (upd H R (.lst (xs.map V.int))) := same_upd hR
    have nL : H L = none := sR.free hL
    have hRL : R ≠ L := ne_of_none upd_same hL
    refine while_by (fun σ H2 => ∃ (r q : List Int) (u5 u6 u7 : Option V), σ = [some (.ref a), some (.ref b), some (.int (((dv.map V.int).length : Int) - 1)), some (.ref R), some (.ref L), u5, u6, u7] ∧ Same H H2 ∧ H2 R = some (.lst (r.map V.int)) ∧ H2 L = some (.lst (q.map V.int)) ∧ r.length + q.length = xs.length ∧
      divGo (dv.length - 1) dv (r.length - (dv.length - 1)) r q = divGo (dv.length - 1) dv (xs.length - (dv.length - 1)) xs []) (fun σ H2 => match H2 R with | some (.lst l) => l.length | _ => 0)
      ⟨xs, [], none, none, none, rfl, same_new sR hL, by rw [upd_ne hRL]; exact upd_same, upd_same, by simp, rfl⟩ ?_ ?_
    · rintro σ H2 ⟨r, q, u5, u6, u7, rfl, s2, h1, h2, hl, hg⟩
      refine ⟨_, rfl, R, _, rfl, .inl (SqL.of h1), _, rfl, _, _, rfl, rfl, _, rfl, ?_⟩
      refine ite2 (fun c => ?_) (fun c => ?_)
      · have c1 : ((dv.map V.int).length : Int) - 1 < ((r.map V.int).length : Int) := of_decide_eq_true c
        rw [eg, List.length_map] at c1
        have c2 : dv.length - 1 < r.length := by omega
        -- highest = rest.pop()
        refine ⟨_, rfl, Or.inl ⟨rfl, _, SqL.of h1⟩, R, _, _, rfl, rfl, h1, lastD (by omega), ?_⟩
        rw [← List.map_dropLast]
        generalize hH3 : upd H2 R (.lst (r.dropLast.map V.int)) = H3
        have p1 : H3 R = some (.lst (r.dropLast.map V.int)) := by rw [← hH3, upd_same]
        have p2 : H3 L = some (.lst (q.map V.int)) := by rw [← hH3, upd_ne hRL.symm]; exact h2
        have s3 : Same H H3 := by rw [← hH3]; exact same_at s2 hR
        -- quotient.append(highest)
        refine ⟨_, rfl, Or.inl ⟨rfl, _, SqL.of p2⟩, _, rfl, L, _, _, rfl, rfl, p2, sl_lt (by rw [List.length_map]; omega), ?_⟩
        generalize hH4 : upd H3 L (.lst (q.map V.int ++ [.int (r.getLastD 0)])) = H4
        have p3 : H4 R = some (.lst (r.dropLast.map V.int)) := by rw [← hH4, upd_ne hRL]; exact p1
        have p4 : H4 L = some (.lst ((q ++ [r.getLastD 0]).map V.int)) := by rw [← hH4, upd_same, List.map_append]; rfl
        have s4 : Same H H4 := by rw [← hH4]; exact same_at s3 nL
        have el : r.dropLast.length = r.length - 1 := List.length_dropLast
        refine ⟨_, rfl, R, _, rfl, .inl (SqL.of p3), _, rfl, _, _, rfl, rfl, ?_⟩
        have ea : ((r.dropLast.map V.int).length : Int) - (((dv.map V.int).length : Int) - 1) = ((r.length - 1 - (dv.length - 1) : Nat) : Int) := by
          rw [eg, List.length_map, el]
          omega
        refine ⟨_, rfl, _, rfl, by omega, by omega, ?_⟩
        rw [show (((dv.map V.int).length : Int) - 1).toNat = dv.length - 1 by rw [eg, Int.toNat_natCast]]
        refine for_range (lo := 0) (n := dv.length - 1) (fun i σ H5 => ∃ u, σ = [some (.ref a), some (.ref b), some (.int (((dv.map V.int).length : Int) - 1)), some (.ref R), some (.ref L), some (.int (r.getLastD 0)), some (.int (((r.dropLast.map V.int).length : Int) - (((dv.map V.int).length : Int) - 1))), u] ∧ Same H H5 ∧ H5 R = some (.lst ((subN (r.getLastD 0) dv (r.length - 1 - (dv.length - 1)) r.dropLast i).map V.int)) ∧ H5 L = some (.lst ((q ++ [r.getLastD 0]).map V.int)))
          ⟨u7, rfl, s4, p3, p4⟩ ?_ ?_
        · rintro i σ H5 hi ⟨u, rfl, s5, p5, p6⟩
          have e0 : (0 : Int) + (i : Int) = (i : Int) := Int.zero_add _
          have e1 : ((r.dropLast.map V.int).length : Int) - (((dv.map V.int).length : Int) - 1) + ((0 : Int) + (i : Int)) = ((r.length - 1 - (dv.length - 1) + i : Nat) : Int) := by
            rw [ea]
            omega
          have sl := subN_len (r.getLastD 0) dv (r.length - 1 - (dv.length - 1)) r.dropLast i
          have gd : -1000 ≤ dv.getD i 0 ∧ dv.getD i 0 ≤ 1000 := by
            rw [List.getD_eq_getElem?_getD, List.getElem?_eq_getElem (by omega : i < dv.length)]
            exact db _ (List.getElem_mem _)
          have gx : atI (dv.map V.int) ((0 : Int) + (i : Int)) = some (V.int (dv.getD i 0)) := by rw [e0]; exact atI_nat (getD_of (by omega))
          refine ⟨_, rfl, _, rfl, _, rfl, _, _, rfl, rfl, R, _, r.length - 1 - (dv.length - 1) + i, _, rfl, congrArg V.int e1, SqL.of p5, getD_of (by omega), _, rfl, _, rfl, _, rfl, ?_⟩
          have fin : rI CMul (fun i j => .int (i * j)) (.int (r.getLastD 0)) (.int (dv.getD i 0)) H5 (fun y H4 => ipI (fun i j => i - j) (.int ((subN (r.getLastD 0) dv (r.length - 1 - (dv.length - 1)) r.dropLast i).getD (r.length - 1 - (dv.length - 1) + i) 0)) y H4 (fun z H5 => rSetL (.ref R) (.int (((r.dropLast.map V.int).length : Int) - (((dv.map V.int).length : Int) - 1) + ((0 : Int) + (i : Int)))) z H5 fun H6 => ∃ u, [some (V.ref a), some (.ref b), some (.int (((dv.map V.int).length : Int) - 1)), some (.ref R), some (.ref L), some (.int (r.getLastD 0)), some (.int (((r.dropLast.map V.int).length : Int) - (((dv.map V.int).length : Int) - 1))), some (.int (0 + (i : Int)))] = [some (.ref a), some (.ref b), some (.int (((dv.map V.int).length : Int) - 1)), some (.ref R), some (.ref L), some (.int (r.getLastD 0)), some (.int (((r.dropLast.map V.int).length : Int) - (((dv.map V.int).length : Int) - 1))), u] ∧ Same H H6 ∧ H6 R = some (.lst ((subN (r.getLastD 0) dv (r.length - 1 - (dv.length - 1)) r.dropLast (i + 1)).map V.int)) ∧ H6 L = some (.lst ((q ++ [r.getLastD 0]).map V.int)))) := by
            refine ⟨_, _, rfl, rfl, Or.inr ⟨by omega, by omega⟩, _, _, rfl, rfl, R, _, _, r.length - 1 - (dv.length - 1) + i, rfl, rfl, p5, ?_, _, rfl, same_at s5 hR, ?_, ?_⟩
            · rw [e1, List.length_map]
              exact ixN_nat (by omega)
            · rw [upd_same, ← List.map_set]
              rfl
            · rw [upd_ne hRL.symm]
              exact p6
          rcases hbL H5 s5 with z | z
          · exact .inl ⟨b, _, _, _, rfl, rfl, z, gx, fin⟩
          · exact .inr ⟨b, _, _, _, rfl, rfl, z, gx, fin⟩
        · rintro σ H5 ⟨u, rfl, s5, p5, p6⟩
          have dl : (divStep (dv.length - 1) dv r).length = r.length - 1 := by
            show (subN _ _ _ _ _).length = _
            rw [subN_len, el]
          refine ⟨⟨divStep (dv.length - 1) dv r, q ++ [r.getLastD 0], _, _, _, rfl, s5, p5, p6, ?_, ?_⟩, ?_⟩
          · rw [dl, List.length_append]
            simp
            omega
          · rw [dl, ← hg]
            have e7 : r.length - (dv.length - 1) = (r.length - 1 - (dv.length - 1)) + 1 := by omega
            rw [e7]
            rfl
          · rw [p5, h1]
            show ((subN _ _ _ _ _).map V.int).length < (r.map V.int).length
            rw [List.length_map, List.length_map, subN_len, el]
            omega
      · have c1 : ¬ ((dv.map V.int).length : Int) - 1 < ((r.map V.int).length : Int) := fun z => c (decide_eq_true z)
        rw [eg, List.length_map] at c1
        have e8 : r.length - (dv.length - 1) = 0 := by omega
        rw [e8] at hg
        have g1 : divL xs dv = (q.reverse, r) := by
          show ((divGo _ _ _ _ _).1.reverse, (divGo _ _ _ _ _).2) = _
          rw [← hg]
          rfl
        refine ⟨_, rfl, L, _, rfl, SqL.of h2, fun p hp => ⟨_, rfl, by show 2 ≤ sizeLine; decide, fun t ht => ?_⟩⟩
        have s9 : Same H2 (upd H2 p (.lst (q.map V.int).reverse)) := same_upd hp
        have n1 : H p = none := s2.free hp
        have n2 : H t = none := (s2.trans s9).free ht
        refine k t p R _ ((s2.trans s9).trans (same_upd ht)) n2 n1 hR upd_same ?_ ?_
        · rw [upd_ne (ne_of_none (upd_same (H := H2)) ht), upd_same, g1, List.map_reverse]
        · rw [upd_ne (ne_of_none (s9 _ _ h1) ht), upd_ne (ne_of_none h1 hp), g1]
          exact h1
    · intro σ H2 Q1 Q2 hq hc
      obtain ⟨v, e1, p, ys, e2, e3, v2, e4, i, j, e5, e6, kk, e7, e8⟩ := hc
      exact ⟨v, e1, p, ys, e2, e3, v2, e4, i, j, e5, e6, kk, e7, hq _ _ e8⟩
end
end K09

namespace K09
open PySem PySem.Spec PyProof.Rows L2
def okS (s : List Int × Int) : Bool := decide (2 ≤ s.1.length) && (decide (s.1.length ≤ 61) && (s.1.all (fun d => decide (-1000 ≤ d) && decide (d ≤ 1000)) && (decide (1 ≤ s.2) && decide (s.2 ≤ 60))))
def polyS (e : Int) (i : Nat) : List Int × Int := ((primesL e).take i).foldl polyStep ([-1, 1], e)
theorem er_in : ∀ r ∈ RR, ordL r ∈ ER := by decide +kernel
theorem er_bd : ∀ e ∈ ER, 2 ≤ e ∧ e ≤ 60 := by decide +kernel
theorem er_primes : ∀ e ∈ ER, ∀ p ∈ primesL e, 2 ≤ p ∧ p ≤ 60 := by decide +kernel
theorem er_ok : ∀ e ∈ ER, ∀ i ∈ List.range ((primesL e).length + 1), okS (polyS e i) = true := by decide +kernel
theorem polyS_succ {e : Int} {i : Nat} {p : Int} (h : (primesL e)[i]? = some p) : polyS e (i + 1) = polyStep (polyS e i) p := by
  unfold polyS
  rw [takeS h, List.foldl_append]
  rfl
theorem okS_of {s : List Int × Int} (h : okS s = true) : 2 ≤ s.1.length ∧ s.1.length ≤ 61 ∧ (∀ d ∈ s.1, -1000 ≤ d ∧ d ≤ 1000) ∧ 1 ≤ s.2 ∧ s.2 ≤ 60 := by
  unfold okS at h
  simp only [Bool.and_eq_true, decide_eq_true_eq, List.all_eq_true] at h
  exact ⟨h.1, h.2.1, h.2.2.1, h.2.2.2.1, h.2.2.2.2⟩
section
variable {P : Program} {w : World} {K : PySem.W.Frag} {mg : Str → Option Value} {base : Heap} {f fP fD fS : Addr} {fd fdP fdD fdS : FuncData}
def spPoly (K : PySem.W.Frag) : Sp := fun vs H Q _ => ∃ e : Int, vs = [.int e] ∧ e ∈ ER ∧ ∀ t H', Same H H' → H t = none → H' t = some (.tup ((polyL e).map V.int)) → Q (.ref t) H'
theorem scPoly : FnScope ["order", "polynomial", "left", "prime", "_"] ["order"] (defScope sPoly) := ⟨rfl, rfl, rfl, by decide +kernel, rfl, by decide +kernel, by decide +kernel⟩
theorem ok_poly (F : FnP K "polynomial_of" sPoly f fd) (B : Bl mg) (FP : FnP K "primes_of" sPrimes fP fdP) (gP : mg "primes_of" = some (.ref fP)) (FD : FnP K "_divided" sDiv fD fdD) (gD : mg "_divided" = some (.ref fD)) (FS : FnP K "_stretched" sStr fS fdS) (gS : mg "_stretched" = some (.ref fS)) :
    FnOk P w K mg base CX0 2 f fd ["order"] (spPoly K) := by
  have GP : FnOk P w K mg base CX0 1 fP fdP ["number"] spPrimes := ok_primes FP B
  have GD : FnOk P w K mg base CX0 1 fD fdD ["items", "divisor"] (spDiv K) := ok_div FD B
  have GS : FnOk P w K mg base CX0 1 fS fdS ["items", "by"] (spStr K) := ok_str FS B
  have bP : Binds K fdP ["number"] [] := FP.bindsN fun _ _ _ _ _ _ us hl => match us, hl with | [_], _ => rfl
  have bD : Binds K fdD ["items", "divisor"] [] := FD.bindsN fun _ _ _ _ _ _ us hl => match us, hl with | [_, _], _ => rfl
  have bS : Binds K fdS ["items", "by"] [] := FS.bindsN fun _ _ _ _ _ _ us hl => match us, hl with | [_, _], _ => rfl
  refine F.ok scPoly (fun vs H Q E h => ?_) (fun cdv A outer s H vs Q E hr h => ?_)
  · obtain ⟨e, rfl, _⟩ := h
    rfl
  · obtain ⟨e, rfl, he, k⟩ := h
    have eb := er_bd e he
    refine ⟨_, PSs.nox (pss_cons (ps_set (i := 1) scPoly.nd rfl (Or.inl rfl) (pe_lst (pa_cons (pe_un un_neg pe_int) (pa_cons pe_int pa_nil))))
      (pss_cons (ps_set (i := 2) scPoly.nd rfl (Or.inl rfl) (pv 0))
      (pss_cons (ps_for PassesOwn.never rfl (pi_list (pe_call GP hr rfl gP FP.kp bP .nil pass0 (pa_cons (pv 0) pa_nil))) (pg_name (i := 3) scPoly.nd rfl (Or.inl rfl))
        (pss_cons (ps_asg (pe_call GD hr rfl gD FD.kp bD .nil pass0 (pa_cons (pe_call GS hr rfl gS FS.kp bS .nil pass0 (pa_cons (pv 1) (pa_cons (pv 3) pa_nil))) (pa_cons (pv 1) pa_nil))) (pg_tup rfl (pgs_cons (pg_name (i := 1) scPoly.nd rfl (Or.inl rfl)) (pgs_cons (pg_name (i := 4) scPoly.nd rfl (Or.inl rfl)) pgs_nil))))
        (pss_one (ps_set (i := 2) scPoly.nd rfl (Or.inl rfl) (pe_op op_fdiv (pv 2) (pv 3))))))
      (pss_one (ps_ret (pe_callTy call_tuple_of (by rfl) (B "tuple" (by decide +kernel)) (by decide +kernel) (pa_cons (pe_call GS hr rfl gS FS.kp bS .nil pass0 (pa_cons (pv 1) (pa_cons (pv 2) pa_nil))) pa_nil))))))), ?_⟩
    refine ⟨_, rfl, by show 2 ≤ sizeLine; decide, fun L hL => ?_⟩
    have s0 : Same H (upd H L (.lst [.int (-1), .int 1])) := same_upd hL
    refine ⟨_, rfl, _, rfl, e, rfl, by omega, by omega, fun p H1 s1 np h1 => ?_⟩
    refine ⟨p, rfl, ⟨_, SqL.of h1⟩, for_list (K := K) (a := p) (xs := (primesL e).map V.int) (fun i σ H2 => ∃ (l : Addr) (u v : Option V), σ = [some (.int e), some (.ref l), some (.int (polyS e i).2), u, v] ∧ Same H H2 ∧ H2 p = some (.lst ((primesL e).map V.int)) ∧ H2 l = some (.lst ((polyS e i).1.map V.int)))
      ⟨L, none, none, rfl, s0.trans s1, h1, s1 _ _ upd_same⟩ (fun i σ H2 _ ⟨_, _, _, _, _, z, _⟩ => SqL.of z) ?_ ?_⟩
    · rintro i y σ H2 hi ⟨l, u, v, rfl, s2, h2, h3⟩
      obtain ⟨c, rfl, hc⟩ := getI hi
      have cb := er_primes e he c (List.mem_of_getElem? hc)
      have hil := ltL hc
      obtain ⟨o1, o2, o3, o4, o5⟩ := okS_of (er_ok e he i (List.mem_range.mpr (by omega)))
      obtain ⟨n, rfl⟩ := Int.eq_ofNat_of_zero_le (show 0 ≤ c by omega)
      refine ⟨_, rfl, _, rfl, l, _, n, rfl, SqL.of h3, by omega, by omega, by omega, by omega, fun q H3 s3 nq h4 => ?_⟩
      have hlen : (strL (polyS e i).1 n).length ≤ 10000 := by
        unfold strL
        rw [strN_len]
        have z : ((polyS e i).1.length - 1) * n ≤ 60 * 60 := Nat.mul_le_mul (by omega) (by omega)
        omega
      refine ⟨_, rfl, q, l, _, _, rfl, SqL.of h4, .inl (SqL.of (s3 _ _ h3)), by omega, by omega, hlen, o3, fun t a b H4 s4 nt na nb h5 h6 h7 => ?_⟩
      refine ⟨t, _, rfl, SqT.of h5, rfl, _, _, rfl, _, _, rfl, rfl, ?_⟩
      refine ⟨_, rfl, _, rfl, _, _, rfl, rfl, ⟨by omega, by omega⟩, ?_⟩
      refine ⟨a, some (.int (n : Int)), some (.ref b), ?_, (s2.trans s3).trans s4, s4 _ _ (s3 _ _ h2), ?_⟩
      · rw [polyS_succ hc]
        rfl
      · rw [polyS_succ hc]
        exact h6
    · rintro σ H2 ⟨l, u, v, rfl, s2, h2, h3⟩
      rw [List.length_map] at h3
      obtain ⟨o1, o2, o3, o4, o5⟩ := okS_of (er_ok e he (primesL e).length (List.mem_range.mpr (by omega)))
      obtain ⟨n, hn⟩ := Int.eq_ofNat_of_zero_le (show 0 ≤ (polyS e (primesL e).length).2 by omega)
      have hn' : (polyS e ((primesL e).map V.int).length).2 = (n : Int) := by rw [List.length_map]; exact hn
      refine ⟨_, rfl, _, rfl, l, (polyS e (primesL e).length).1, n, ?_, SqL.of h3, by omega, by omega, by omega, by omega, fun q H3 s3 nq h4 => ?_⟩
      · rw [hn']
        rfl
      · refine ⟨q, _, rfl, .inl ⟨SqL.of h4, fun t ht => ?_⟩⟩
        have n1 : H t = none := (s2.trans s3).free ht
        refine k t _ ((s2.trans s3).trans (same_upd ht)) n1 ?_
        rw [upd_same]
        have e9 : polyS e (primesL e).length = (primesL e).foldl polyStep ([-1, 1], e) := by
          unfold polyS
          rw [List.take_length]
        have e10 : polyL e = strL (polyS e (primesL e).length).1 n := by
          show strL ((primesL e).foldl polyStep ([-1, 1], e)).1 ((primesL e).foldl polyStep ([-1, 1], e)).2.toNat = _
          rw [← e9, hn]
          rfl
        rw [e10]
/-! ### reduced -/
def spRed (K : PySem.W.Frag) : Sp := fun vs H Q _ => ∃ (a b : Addr) (xs dv : List Int), vs = [.ref a, .ref b] ∧ SqL K H a (xs.map V.int) ∧ SqT K H b (dv.map V.int) ∧ 2 ≤ dv.length ∧ dv.length ≤ 100 ∧ xs.length ≤ 100 ∧ (∀ d ∈ dv, -1000 ≤ d ∧ d ≤ 1000) ∧
  ∀ t H', Same H H' → H t = none → H' t = some (.tup ((redL xs dv).map V.int)) → Q (.ref t) H'
theorem scRed : FnScope ["items", "polynomial", "_", "rest"] ["items", "polynomial"] (defScope sRed) := ⟨rfl, rfl, rfl, by decide +kernel, rfl, by decide +kernel, by decide +kernel⟩
theorem divGo_len (deg : Nat) (dv : List Int) : ∀ n r q, r.length = deg + n → (divGo deg dv n r q).2.length = deg
  | 0, r, q, h => by simpa [divGo] using h
  | n + 1, r, q, h => by
    unfold divGo
    refine divGo_len deg dv n _ _ ?_
    show (subN _ _ _ _ _).length = _
    rw [subN_len, List.length_dropLast]
    omega
theorem divL_len {xs dv : List Int} (h1 : 1 ≤ dv.length) (h2 : dv.length ≤ xs.length) : (divL xs dv).2.length = dv.length - 1 := divGo_len _ _ _ _ _ (by omega)
theorem divL_le {xs dv : List Int} (h1 : 1 ≤ dv.length) : (divL xs dv).2.length ≤ dv.length - 1 := by
  by_cases h2 : dv.length ≤ xs.length
  · rw [divL_len h1 h2]
    exact Nat.le_refl _
  · have e : xs.length - (dv.length - 1) = 0 := by omega
    unfold divL
    rw [e]
    show xs.length ≤ _
    omega
theorem ok_red (F : FnP K "reduced" sRed f fd) (B : Bl mg) (FD : FnP K "_divided" sDiv fD fdD) (gD : mg "_divided" = some (.ref fD)) : FnOk P w K mg base CX0 2 f fd ["items", "polynomial"] (spRed K) := by
  have GD : FnOk P w K mg base CX0 1 fD fdD ["items", "divisor"] (spDiv K) := ok_div FD B
  have bD : Binds K fdD ["items", "divisor"] [] := FD.bindsN fun _ _ _ _ _ _ us hl => match us, hl with | [_, _], _ => rfl
  refine F.ok scRed (fun vs H Q E h => ?_) (fun cdv A outer s H vs Q E hr h => ?_)
  · obtain ⟨a, b, xs, dv, rfl, _⟩ := h
    rfl
  · obtain ⟨a, b, xs, dv, rfl, hS, hD, d1, d2, x1, db, k⟩ := h
    refine ⟨_, PSs.nox (pss_cons (ps_asg (pe_call GD hr rfl gD FD.kp bD .nil pass0 (pa_cons (pv 0) (pa_cons (pv 1) pa_nil))) (pg_tup rfl (pgs_cons (pg_name (i := 2) scRed.nd rfl (Or.inl rfl)) (pgs_cons (pg_name (i := 3) scRed.nd rfl (Or.inl rfl)) pgs_nil))))
      (pss_one (ps_ret (pe_callTy call_tuple_of (by rfl) (B "tuple" (by decide +kernel)) (by decide +kernel) (pa_cons (pe_op op_cat (pv 3) (pe_op op_rep (pe_lst (pa_cons pe_int pa_nil)) (pe_op op_sub (pe_op op_sub (pe_callB call_len_seq (by rfl) (B "len" (by decide +kernel)) PySem.boot_len (pa_cons (pv 1) pa_nil)) pe_int) (pe_callB call_len_seq (by rfl) (B "len" (by decide +kernel)) PySem.boot_len (pa_cons (pv 3) pa_nil))))) pa_nil))))), ?_⟩
    refine ⟨_, rfl, _, rfl, a, b, xs, dv, rfl, hS, .inr hD, by omega, by omega, by omega, db, fun t q r H1 s1 nt nq nr h1 h2 h3 => ?_⟩
    have dl : (divL xs dv).2.length ≤ dv.length - 1 := divL_le (by omega)
    generalize hm : dv.length - 1 - (divL xs dv).2.length = m
    refine ⟨t, _, rfl, SqT.of h1, rfl, _, _, rfl, _, _, rfl, rfl, ?_⟩
    refine ⟨_, rfl, by show 1 ≤ sizeLine; decide, fun z hz => ?_⟩
    have sz : Same H1 (upd H1 z (.lst [.int 0])) := same_upd hz
    refine ⟨_, rfl, b, _, rfl, .inr ((s1.trans sz).tup hD), _, _, rfl, rfl, _, rfl, r, _, rfl, .inl (SqL.of (sz _ _ h3)), _, _, rfl, rfl, z, _, _, rfl, rfl, upd_same, ?_⟩
    have ez : ((dv.map V.int).length : Int) - 1 - ((((divL xs dv).2).map V.int).length : Int) = (m : Int) := by
      rw [List.length_map, List.length_map]
      omega
    rw [ez, Int.toNat_natCast, rep_flat]
    refine ⟨by omega, by omega, by show 1 * m ≤ sizeLine; rw [sizeLine_eq]; omega, fun y hy => ?_⟩
    have sy : Same H1 (upd (upd H1 z (.lst [.int 0])) y (.lst (List.replicate m (V.int 0)))) := same_new sz hy
    refine ⟨r, y, _, _, rfl, rfl, sy _ _ h3, upd_same, sl_1000 (by rw [List.length_map, List.length_replicate]; omega), fun c hc => ?_⟩
    refine ⟨c, _, rfl, .inl ⟨SqL.of upd_same, fun t2 ht2 => ?_⟩⟩
    have s3 := same_new (o := .lst (((divL xs dv).2.map V.int) ++ List.replicate m (V.int 0))) sy hc
    refine k t2 _ ((s1.trans s3).trans (same_upd ht2)) ((s1.trans s3).free ht2) ?_
    rw [upd_same]
    unfold redL
    rw [hm, List.map_append]
    simp
end
end K09

namespace K09
open PySem PySem.Spec PyProof.Rows L2
section
variable {prog : Program} {w : World} {A : Around} {E : Value → Shared → Prop} {s : Shared} {t : Addr} {its : List Value} {ns : List Int} {Q : Value → Shared → Prop}
/-- min of a tuple of ints -/
theorem minT_raw (hh : A.handled = none) (ht : s.heap.IsTuple t its.toArray) (hi : IntsAre its ns) (hne : 0 < ns.length)
    (h : ∀ h' tk M t', (∀ b o, s.heap.get? b = some o → h'.get? b = some o) → M ∈ ns → (∀ a, a ∈ ns → M ≤ a) → Q (.int M t') { s with heap := h', toks := tk }) : wpAny (model prog w) A (call (.builtin "min") [.ref t]) Q E s := by
  obtain ⟨xs, e⟩ := hi.allInts.items
  have hn : numsOf (intItems xs).toList = ns := by rw [← e]; exact hi.numsOf
  rw [nums_intItems] at hn
  subst hn
  rw [e] at ht
  have hsz : 0 < xs.size := by simpa using hne
  obtain ⟨o0, g0, _⟩ := id ht
  have hlt := Heap.lt_size g0
  refine call_min_walk (wpAny_pyIter_tuple ht ?_)
  refine ⟨_, [s.heap.objs.size, t], [s.heap.objs.size], _, _, _, _, rfl, Walks.tuple (A := A.in1) hh s.heap.objs.size t (Nat.ne_of_lt hlt) (intItems xs), ⟨⟨_, Heap.get?_push_size _ rfl, rfl, rfl⟩, ht.push _⟩, fun d hd => ?_, by simpa [intItems] using hsz, CmpOf.ints_lt (numAt xs) (fun _ _ => intItems_at), fun v h' tk hP hk => ?_⟩
  · show d < (s.heap.push _).objs.size
    rw [Heap.size_push]
    rcases List.mem_cons.mp hd with rfl | hd
    · exact Nat.lt_succ_self _
    · rw [List.mem_singleton.mp hd]
      exact Nat.lt_succ_of_lt hlt
  · obtain ⟨tt, rfl⟩ := intItems_at hP
    have sz : (intItems xs).size = xs.size := by simp [intItems]
    obtain ⟨h1, h2⟩ := argBest_lt (numAt xs) ((intItems xs).size - 1)
    refine h h' tk _ tt (fun b o g => hk b o (fun z => ?_) (Heap.get?_push_of_some _ g)) ?_ fun a ha => ?_
    · rw [List.mem_singleton.mp z] at g
      exact absurd (Heap.lt_size g) (Nat.lt_irrefl _)
    · rw [numAt_eq]; exact PySem.getD_mem (by rw [List.length_map, Array.length_toList]; omega)
    · obtain ⟨j, hj, rfl⟩ := mem_getD ha
      rw [List.length_map, Array.length_toList] at hj
      rw [← numAt_eq]; exact h2 j (by omega)
end
section
variable {X : Cx}
def rMinT (K : PySem.W.Frag) : List V → Hp → VK → Prop := fun vs H Q => ∃ (a : Addr) (ns : List Int), vs = [V.ref a] ∧ SqT K H a (ns.map V.int) ∧ 0 < ns.length ∧ ∀ m, m ∈ ns → (∀ y, y ∈ ns → m ≤ y) → Q (.int m) H
theorem cr_minT (hc : X.calm = true) : CallR X (.builtin "min") (rMinT X.K) := by
  intro pins s σ H vs us Q I r h
  obtain ⟨a, ns, rfl, hs, hne, q⟩ := h
  obtain ⟨its, rv, hl, _⟩ := I.tuple hs
  rw [Vals.ref1 r]
  exact minT_raw (I.ok.hd hc) hl rv.ints hne fun h' tk m t' hk h1 h2 => ⟨.int _, H, I.kept hk, ⟨_, rfl⟩, q m h1 h2⟩
theorem tyT {K : PySem.W.Frag} {H : Hp} {a : Addr} {xs : List V} (h : SqT K H a xs) : TyX K H (.ref a) (.type "tuple") := by
  rcases h with h | ⟨o, its, n, hk, hc, _⟩
  · rcases h with h | ⟨o, h⟩
    · exact .base (.tup h)
    · exact .fTuple h
  · exact .kTuple hk hc
end
/-! ### the kinds -/
section
variable {P : Program} {w : World} {K : PySem.W.Frag} {mg : Str → Option Value} {base : Heap} {f f1 f2 f3 : Addr} {fd fd1 fd2 fd3 : FuncData}
def spIsInt : Sp := fun vs H Q _ => ∃ i : Int, vs = [.int i] ∧ Q (.bl true) H
theorem scIsInt : FnScope ["thing"] ["thing"] (defScope sIsInt) := ⟨rfl, rfl, rfl, by decide +kernel, rfl, by decide +kernel, by decide +kernel⟩
theorem ok_isInt (F : FnP K "is_integer" sIsInt f fd) (B : Bl mg) : FnOk P w K mg base CX0 1 f fd ["thing"] spIsInt := by
  refine F.ok scIsInt (fun vs H Q E h => ?_) (fun cdv A outer s H vs Q E hr h => ?_)
  · obtain ⟨e, rfl, _⟩ := h
    rfl
  · obtain ⟨i, rfl, k⟩ := h
    refine ⟨_, PSs.nox (pss_one (ps_ret (pe_and (pe_callB call_isi (by rfl) (B "isinstance" (by decide +kernel)) (by decide +kernel) (pa_cons (pv 0) (pa_cons (pe_bltn (v := .ty "int") rfl (B "int" (by decide +kernel)) (by decide +kernel) rfl) pa_nil)))
      (pe_one (pe_not (pe_callB call_isi (by rfl) (B "isinstance" (by decide +kernel)) (by decide +kernel) (pa_cons (pv 0) (pa_cons (pe_bltn (v := .ty "bool") rfl (B "bool" (by decide +kernel)) (by decide +kernel) rfl) pa_nil)))))))), ?_⟩
    refine ⟨_, rfl, _, _, .type "int", _, true, rfl, .ty "int", .base (.int i), kit_ty (by decide +kernel), true, rfl, ?_⟩
    exact ⟨_, rfl, _, _, .type "int", _, false, rfl, .ty "bool", .base (.int i), kit_ty (by decide +kernel), false, rfl, k⟩
def spIsInts (K : PySem.W.Frag) : Sp := fun vs H Q _ => ∃ (v : V) (ns : List Int), vs = [v] ∧ TupI K H v ns ∧ ns.length ≤ 100 ∧ ∀ H', Same H H' → Q (.bl true) H'
theorem scIsInts : FnScope ["thing", "item"] ["thing"] (defScope sIsInts) := ⟨rfl, rfl, rfl, by decide +kernel, rfl, by decide +kernel, by decide +kernel⟩
theorem all_true (n : Nat) : (List.replicate n true).all id = true := by simp
theorem ok_isInts (F : FnP K "is_integers" sIsInts f fd) (B : Bl mg) (F1 : FnP K "is_integer" sIsInt f1 fd1) (g1 : mg "is_integer" = some (.ref f1)) : FnOk P w K mg base CX0 2 f fd ["thing"] (spIsInts K) := by
  have G1 : FnOk P w K mg base CX0 1 f1 fd1 ["thing"] spIsInt := ok_isInt F1 B
  have b1 : Binds K fd1 ["thing"] [] := F1.bindsN fun _ _ _ _ _ _ us hl => match us, hl with | [_], _ => rfl
  refine F.ok scIsInts (fun vs H Q E h => ?_) (fun cdv A outer s H vs Q E hr h => ?_)
  · obtain ⟨v, ns, rfl, _⟩ := h
    rfl
  · obtain ⟨v, ns, rfl, ⟨a, rfl, ha⟩, hl, k⟩ := h
    refine ⟨_, PSs.nox (pss_one (ps_ret (pe_and (pe_callB call_isi (by rfl) (B "isinstance" (by decide +kernel)) (by decide +kernel) (pa_cons (pv 0) (pa_cons (pe_bltn (v := .ty "tuple") rfl (B "tuple" (by decide +kernel)) (by decide +kernel) rfl) pa_nil)))
      (pe_one (pe_callB (cr_all rfl) (by rfl) (B "all" (by decide +kernel)) (by decide +kernel) (pa_cons (pe_lc (own := [("item", 1)]) (g := gName 1) (tt := tYes) (te := tCall spIsInt [] E0 (tCons (tVar 1) tNil)) rfl scIsInts.nd (pi_tup (pv 0))
        (blkOk_by (own := [("item", 1)]) (N := ["thing", "item"]) (sc := defScope sIsInts) (by decide +kernel)) (fun _ _ _ _ _ => pg_name (i := 1) scIsInts.nd rfl (Or.inl rfl)) (fun _ _ _ _ _ => pts_nil) (fun _ _ _ _ _ => pe_call G1 hr rfl g1 F1.kp b1 .nil pass0 (pa_cons (pv 1) pa_nil))) pa_nil)))))), ?_⟩
    refine ⟨_, rfl, _, _, .type "tuple", _, true, rfl, .ty "tuple", tyT ha, kit_ty (by decide +kernel), true, rfl, ?_⟩
    refine ⟨_, rfl, a, rfl, ⟨_, ha⟩, fun D hD => ?_⟩
    refine lc_tup (K := K) (a := a) (xs := ns.map V.int) (fun i H2 => Same H H2 ∧ H2 D = some (.lst ((List.replicate i true).map V.bl))) ⟨same_upd hD, upd_same⟩ (fun i H2 _ ⟨s2, _⟩ => s2.tup ha) ?_ ?_
    · rintro i y H2 hi ⟨s2, h2⟩
      obtain ⟨c, rfl, hc⟩ := getI hi
      have := ltL hc
      refine ⟨rfl, _, rfl, c, rfl, _, h2, sl_lt (by rw [List.length_map, List.length_replicate]; omega), same_at s2 hD, ?_⟩
      rw [upd_same, List.replicate_succ', List.map_append]
      rfl
    · rintro H2 ⟨s2, h2⟩
      refine ⟨D, _, rfl, SqL.of h2, ?_⟩
      rw [all_true]
      exact k H2 s2
/-! ### _size -/
def spSize (K : PySem.W.Frag) : Sp := fun vs H Q _ => ∃ (v : V) (r : List Int), vs = [v] ∧ TupI K H v r ∧ r ∈ RR ∧ ∃ n : Int, n ≤ 60 ∧ Q (.int n) H
theorem rr_size : ∀ r ∈ RR, ∀ i ∈ List.range (r.length + 1), 1 ≤ sizeL (r.take i) ∧ sizeL (r.take i) ≤ 60 := by decide +kernel
def spSize' (K : PySem.W.Frag) : Sp := fun vs H Q _ => ∃ (v : V) (r : List Int), vs = [v] ∧ TupI K H v r ∧ r ∈ RR ∧ Q (.int (sizeL r)) H
theorem scSize : FnScope ["lengths", "size", "length"] ["lengths"] (defScope sSize) := ⟨rfl, rfl, rfl, by decide +kernel, rfl, by decide +kernel, by decide +kernel⟩
theorem size_take {r : List Int} {i : Nat} {x : Int} (h : r[i]? = some x) : sizeL (r.take (i + 1)) = sizeL (r.take i) * x := by
  rw [takeS h]
  unfold sizeL
  rw [List.foldl_append]
  rfl
theorem ok_size (F : FnP K "_size" sSize f fd) : FnOk P w K mg base CX0 1 f fd ["lengths"] (spSize' K) := by
  refine F.ok scSize (fun vs H Q E h => ?_) (fun cdv A outer s H vs Q E hr h => ?_)
  · obtain ⟨v, r, rfl, _⟩ := h
    rfl
  · obtain ⟨v, r, rfl, ⟨a, rfl, ha⟩, h14, k⟩ := h
    refine ⟨_, PSs.nox (pss_cons (ps_set (i := 1) scSize.nd rfl (Or.inl rfl) pe_int)
      (pss_cons (ps_for PassesOwn.never rfl (pi_tup (pv 0)) (pg_name (i := 2) scSize.nd rfl (Or.inl rfl)) (pss_one (ps_set (i := 1) scSize.nd rfl (Or.inl rfl) (pe_op op_mul (pv 1) (pv 2)))))
      (pss_one (ps_ret (pv 1))))), ?_⟩
    refine ⟨_, rfl, a, rfl, ⟨_, ha⟩, for_tup (K := K) (a := a) (xs := r.map V.int) (fun i σ H2 => ∃ u, σ = [some (.ref a), some (.int (sizeL (r.take i))), u] ∧ H2 = H) ⟨none, rfl, rfl⟩ (fun i σ H2 _ ⟨_, _, e⟩ => by rw [e]; exact ha) ?_ ?_⟩
    · rintro i y σ H2 hi ⟨u, rfl, rfl⟩
      obtain ⟨c, rfl, hc⟩ := getI hi
      have hl := ltL hc
      have h1 := rr_size r h14 i (List.mem_range.mpr (by omega))
      refine ⟨_, rfl, _, rfl, _, _, rfl, rfl, Or.inl ⟨by omega, by omega⟩, some (.int c), by rw [size_take hc]; rfl, rfl⟩
    · rintro σ H2 ⟨u, rfl, rfl⟩
      refine ⟨_, rfl, ?_⟩
      rw [List.length_map, List.take_length]
      exact k
end
end K09

namespace K09
open PySem PySem.Spec PyProof.Rows L2
theorem rr_whole {r : List Int} (h : r ∈ RR) {p : List Int} (hp : p ∈ placesL r) : p.length = r.length := by
  have z := rr_plen r h r.length (List.mem_range.mpr (Nat.lt_succ_self _))
  rw [List.take_length] at z
  exact z p hp
theorem rr_bd : ∀ r ∈ RR, ∀ p ∈ placesL r, ∀ i ∈ List.range r.length, 0 ≤ p.getD i 0 ∧ p.getD i 0 < r.getD i 0 := by decide +kernel
theorem rr_it : ∀ r ∈ RR, ∀ p ∈ placesL r, ∀ x ∈ p, 0 ≤ x ∧ x < 60 := by decide +kernel
section
variable {P : Program} {w : World} {K : PySem.W.Frag} {mg : Str → Option Value} {base : Heap} {f f1 f2 f3 f4 : Addr} {fd fd1 fd2 fd3 fd4 : FuncData}
/-! ### are_rings, check_rings -/
def spAre (K : PySem.W.Frag) : Sp := fun vs H Q _ => ∃ (v : V) (r : List Int), vs = [v] ∧ TupI K H v r ∧ r ∈ RR ∧ ∀ H', Same H H' → Q (.bl true) H'
theorem scAre : FnScope ["thing"] ["thing"] (defScope sAre) := ⟨rfl, rfl, rfl, by decide +kernel, rfl, by decide +kernel, by decide +kernel⟩
theorem ok_are (F : FnP K "are_rings" sAre f fd) (B : Bl mg) (F1 : FnP K "is_integers" sIsInts f1 fd1) (g1 : mg "is_integers" = some (.ref f1)) (G1 : FnOk P w K mg base CX0 2 f1 fd1 ["thing"] (spIsInts K)) (F2 : FnP K "_size" sSize f2 fd2) (g2 : mg "_size" = some (.ref f2))
    (gR : ∃ t, mg "MOST_RINGS" = some (.int 4 t)) (gP : ∃ t, mg "MOST_PLACES" = some (.int 60 t)) : FnOk P w K mg base CX0 3 f fd ["thing"] (spAre K) := by
  have G2 : FnOk P w K mg base CX0 1 f2 fd2 ["lengths"] (spSize' K) := ok_size F2
  have b1 : Binds K fd1 ["thing"] [] := F1.bindsN fun _ _ _ _ _ _ us hl => match us, hl with | [_], _ => rfl
  have b2 : Binds K fd2 ["lengths"] [] := F2.bindsN fun _ _ _ _ _ _ us hl => match us, hl with | [_], _ => rfl
  obtain ⟨t1, e1⟩ := gR
  obtain ⟨t2, e2⟩ := gP
  refine F.ok scAre (fun vs H Q E h => ?_) (fun cdv A outer s H vs Q E hr h => ?_)
  · obtain ⟨v, r, rfl, _⟩ := h
    rfl
  · obtain ⟨v, r, rfl, ⟨a, rfl, ha⟩, h14, k⟩ := h
    refine ⟨_, PSs.nox (pss_cons (ps_if (PW.pt (pw_or (pt_not (pt_val (pe_call G1 hr rfl g1 F1.kp b1 .nil pass0 (pa_cons (pv 0) pa_nil)))) (pw_or1 (pt_not (pt_chain op_le op_le pe_int (pe_callB call_len_seq (by rfl) (B "len" (by decide +kernel)) PySem.boot_len (pa_cons (pv 0) pa_nil)) (pe_glob (v := .int 4) rfl e1 ⟨_, rfl⟩))))))
        (pss_one ps_never) pss_nil)
      (pss_one (ps_ret (pe_and (pe_cmpR op_ge (pe_callB (cr_minT rfl) (by rfl) (B "min" (by decide +kernel)) (by decide +kernel) (pa_cons (pv 0) pa_nil)) pe_int (nomark _))
        (pe_one (pe_cmpR op_le (pe_call G2 (hr.mono (by decide)) rfl g2 F2.kp b2 .nil pass0 (pa_cons (pv 0) pa_nil)) (pe_glob (v := .int 60) rfl e2 ⟨_, rfl⟩) (nomark _))))))), ?_⟩
    have hn := rr_len r h14
    refine ⟨_, rfl, _, r, rfl, ⟨a, rfl, ha⟩, by omega, fun H1 s1 => ?_⟩
    have ha1 : SqT K H1 a (r.map V.int) := s1.tup ha
    refine ⟨_, rfl, ?_⟩
    refine iteF ?_
    refine ⟨_, rfl, a, _, rfl, .inr ha1, _, _, rfl, rfl, _, rfl, ?_⟩
    have c1 : decide ((1 : Int) ≤ ((r.map V.int).length : Int)) = true := decide_eq_true (by rw [List.length_map]; omega)
    have c2 : decide (((r.map V.int).length : Int) ≤ 4) = true := decide_eq_true (by rw [List.length_map]; omega)
    refine ite2 (fun _ => ?_) (fun z => absurd c1 z)
    refine ⟨_, _, rfl, rfl, _, rfl, ?_⟩
    rw [c2]
    refine iteF ?_
    refine ⟨_, rfl, a, r, rfl, ha1, by omega, fun m hm hle => ⟨_, _, rfl, rfl, _, rfl, ?_⟩⟩
    have c3 : decide ((2 : Int) ≤ m) = true := decide_eq_true (rr_pos r h14 m hm).1
    refine ite2 (fun _ => ?_) (fun z => absurd c3 z)
    have z := rr_size r h14 r.length (List.mem_range.mpr (Nat.lt_succ_self _))
    rw [List.take_length] at z
    refine ⟨_, rfl, _, r, rfl, ⟨a, rfl, ha1⟩, h14, _, _, rfl, rfl, ?_⟩
    have c4 : decide (sizeL r ≤ 60) = true := decide_eq_true z.2
    show Q (.bl (decide (sizeL r ≤ 60))) H1
    rw [c4]
    exact k H1 s1
def spNon (K : PySem.W.Frag) : Sp := fun vs H Q _ => ∃ (v : V) (r : List Int), vs = [v] ∧ TupI K H v r ∧ r ∈ RR ∧ ∀ H', Same H H' → Q .non H'
theorem scChkR : FnScope ["rings"] ["rings"] (defScope sChkR) := ⟨rfl, rfl, rfl, by decide +kernel, rfl, by decide +kernel, by decide +kernel⟩
theorem ok_chkR (F : FnP K "check_rings" sChkR f fd) (F1 : FnP K "are_rings" sAre f1 fd1) (g1 : mg "are_rings" = some (.ref f1)) (G1 : FnOk P w K mg base CX0 3 f1 fd1 ["thing"] (spAre K)) : FnOk P w K mg base CX0 4 f fd ["rings"] (spNon K) := by
  have b1 : Binds K fd1 ["thing"] [] := F1.bindsN fun _ _ _ _ _ _ us hl => match us, hl with | [_], _ => rfl
  refine F.ok scChkR (fun vs H Q E h => ?_) (fun cdv A outer s H vs Q E hr h => ?_)
  · obtain ⟨v, r, rfl, _⟩ := h
    rfl
  · obtain ⟨v, r, rfl, ⟨a, rfl, ha⟩, h14, k⟩ := h
    refine ⟨_, PSs.nox (pss_one (ps_if (pt_not (pt_val (pe_call G1 hr rfl g1 F1.kp b1 .nil pass0 (pa_cons (pv 0) pa_nil)))) (pss_one ps_never) pss_nil)), ?_⟩
    refine ⟨_, rfl, _, r, rfl, ⟨a, rfl, ha⟩, h14, fun H1 s1 => ⟨_, rfl, iteF (k H1 s1)⟩⟩
theorem scOrdOf : FnScope ["rings"] ["rings"] (defScope sOrdOf) := ⟨rfl, rfl, rfl, by decide +kernel, rfl, by decide +kernel, by decide +kernel⟩
theorem ok_ordOf (F : FnP K "order_of" sOrdOf f fd) (F1 : FnP K "check_rings" sChkR f1 fd1) (g1 : mg "check_rings" = some (.ref f1)) (G1 : FnOk P w K mg base CX0 4 f1 fd1 ["rings"] (spNon K)) (F2 : FnP K "common_order" sOrder f2 fd2) (g2 : mg "common_order" = some (.ref f2)) (G2 : FnOk P w K mg base CX0 1 f2 fd2 ["rings"] (spOrder K)) : FnOk P w K mg base CX0 5 f fd ["rings"] (spOrder K) := by
  have b1 : Binds K fd1 ["rings"] [] := F1.bindsN fun _ _ _ _ _ _ us hl => match us, hl with | [_], _ => rfl
  have b2 : Binds K fd2 ["rings"] [] := F2.bindsN fun _ _ _ _ _ _ us hl => match us, hl with | [_], _ => rfl
  refine F.ok scOrdOf (fun vs H Q E h => ?_) (fun cdv A outer s H vs Q E hr h => ?_)
  · obtain ⟨v, r, rfl, _⟩ := h
    rfl
  · obtain ⟨v, r, rfl, ⟨a, rfl, ha⟩, h14, k⟩ := h
    refine ⟨_, PSs.nox (pss_cons (ps_expr (pe_call G1 hr rfl g1 F1.kp b1 .nil pass0 (pa_cons (pv 0) pa_nil))) (pss_one (ps_ret (pe_call G2 (hr.mono (by decide)) rfl g2 F2.kp b2 .nil pass0 (pa_cons (pv 0) pa_nil))))), ?_⟩
    exact ⟨_, rfl, _, r, rfl, ⟨a, rfl, ha⟩, h14, fun H1 s1 => ⟨_, rfl, _, r, rfl, ⟨a, rfl, s1.tup ha⟩, h14, fun H2 s2 => k H2 (s1.trans s2)⟩⟩
/-! ### is_place, check_place -/
def spIsPl (K : PySem.W.Frag) : Sp := fun vs H Q _ => ∃ (v u : V) (r p : List Int), vs = [v, u] ∧ TupI K H v r ∧ TupI K H u p ∧ r ∈ RR ∧ p ∈ placesL r ∧ ∀ H', Same H H' → Q (.bl true) H'
theorem scIsPl : FnScope ["rings", "thing", "k"] ["rings", "thing"] (defScope sIsPl) := ⟨rfl, rfl, rfl, by decide +kernel, rfl, by decide +kernel, by decide +kernel⟩
theorem ok_isPl (F : FnP K "is_place" sIsPl f fd) (B : Bl mg) (F1 : FnP K "is_integers" sIsInts f1 fd1) (g1 : mg "is_integers" = some (.ref f1)) (G1 : FnOk P w K mg base CX0 2 f1 fd1 ["thing"] (spIsInts K)) : FnOk P w K mg base CX0 3 f fd ["rings", "thing"] (spIsPl K) := by
  have b1 : Binds K fd1 ["thing"] [] := F1.bindsN fun _ _ _ _ _ _ us hl => match us, hl with | [_], _ => rfl
  refine F.ok scIsPl (fun vs H Q E h => ?_) (fun cdv A outer s H vs Q E hr h => ?_)
  · obtain ⟨v, u, r, p, rfl, _⟩ := h
    rfl
  · obtain ⟨v, u, r, p, rfl, ⟨a, rfl, ha⟩, ⟨b, rfl, hb⟩, h14, hp, k⟩ := h
    refine ⟨_, PSs.nox (pss_cons (ps_if (PW.pt (pw_or (pt_not (pt_val (pe_call G1 hr rfl g1 F1.kp b1 .nil pass0 (pa_cons (pv 1) pa_nil)))) (pw_or1 (pt_cmpR op_ne (pe_callB call_len_seq (by rfl) (B "len" (by decide +kernel)) PySem.boot_len (pa_cons (pv 1) pa_nil)) (pe_callB call_len_seq (by rfl) (B "len" (by decide +kernel)) PySem.boot_len (pa_cons (pv 0) pa_nil)) (nomark _)))))
        (pss_one ps_never) pss_nil)
      (pss_one (ps_ret (pe_callB (cr_all rfl) (by rfl) (B "all" (by decide +kernel)) (by decide +kernel) (pa_cons
        (pe_lc (own := [("k", 2)]) (g := gName 2) (tt := tYes) (te := tChain (rI0 fun i j => .bl (decide (i ≤ j))) (rI0 fun i j => .bl (decide (i < j))) (tC (.int 0)) (tOp (rIxT K) (tVar 1) (tVar 2)) (tOp (rIxT K) (tVar 0) (tVar 2))) rfl scIsPl.nd (pi_range1 rfl (B "range" (by decide +kernel)) (pa_cons (pe_callB call_len_seq (by rfl) (B "len" (by decide +kernel)) PySem.boot_len (pa_cons (pv 0) pa_nil)) pa_nil))
          (blkOk_by (own := [("k", 2)]) (N := ["rings", "thing", "k"]) (sc := defScope sIsPl) (by decide +kernel)) (fun _ _ _ _ _ => pg_name (i := 2) scIsPl.nd rfl (Or.inl rfl)) (fun _ _ _ _ _ => pts_nil) (fun _ _ _ _ _ => pe_chain op_le op_lt pe_int (pe_ix ix_tup (pv 1) (pv 2) (fun _ _ => rfl)) (pe_ix ix_tup (pv 0) (pv 2) (fun _ _ => rfl)))) pa_nil))))), ?_⟩
    have hn := rr_len r h14
    have hl := rr_whole h14 hp
    refine ⟨_, rfl, _, p, rfl, ⟨b, rfl, hb⟩, by omega, fun H1 s1 => ⟨_, rfl, iteF ?_⟩⟩
    refine ⟨_, rfl, b, _, rfl, .inr (s1.tup hb), _, rfl, a, _, rfl, .inr (s1.tup ha), rfl, _, rfl, ?_⟩
    refine iteNS (by rw [List.length_map, List.length_map, hl]) ?_
    refine ⟨_, rfl, a, _, rfl, .inr (s1.tup ha), _, rfl, by rw [List.length_map]; omega, by rw [List.length_map]; omega, fun D hD => ?_⟩
    have en : ((r.map V.int).length : Int).toNat = r.length := by rw [List.length_map]; omega
    rw [en]
    refine lc_range (lo := 0) (n := r.length) (fun i H2 => Same H1 H2 ∧ H2 D = some (.lst ((List.replicate i true).map V.bl))) ⟨same_upd hD, upd_same⟩ ?_ ?_
    · rintro i H2 hi ⟨s2, h2⟩
      have e0 : (0 : Int) + (i : Int) = (i : Int) := Int.zero_add _
      have bd := rr_bd r h14 p hp i (List.mem_range.mpr hi)
      have g1' : atI (p.map V.int) ((0 : Int) + (i : Int)) = some (V.int (p.getD i 0)) := by rw [e0]; exact atI_nat (getD_of (by omega))
      have g2' : atI (r.map V.int) ((0 : Int) + (i : Int)) = some (V.int (r.getD i 0)) := by rw [e0]; exact atI_nat (getD_of hi)
      have c1 : decide ((0 : Int) ≤ p.getD i 0) = true := decide_eq_true bd.1
      have c2 : decide (p.getD i 0 < r.getD i 0) = true := decide_eq_true bd.2
      refine ⟨rfl, _, rfl, _, rfl, b, _, _, _, rfl, rfl, (s1.trans s2).tup hb, g1', _, _, rfl, rfl, _, rfl, ?_⟩
      refine ite2 (fun _ => ?_) (fun z => absurd c1 z)
      refine ⟨_, rfl, _, rfl, a, _, _, _, rfl, rfl, (s1.trans s2).tup ha, g2', _, _, rfl, rfl, ?_⟩
      refine ⟨_, h2, sl_lt (by rw [List.length_map, List.length_replicate]; omega), same_at s2 hD, ?_⟩
      rw [upd_same, List.replicate_succ', List.map_append]
      show some (HO.lst (_ ++ [V.bl (decide (p.getD i 0 < r.getD i 0))])) = _
      rw [c2]
      rfl
    · rintro H2 ⟨s2, h2⟩
      refine ⟨D, _, rfl, SqL.of h2, ?_⟩
      rw [all_true]
      exact k H2 (s1.trans s2)
def spChkP (K : PySem.W.Frag) : Sp := fun vs H Q _ => ∃ (v u : V) (r p : List Int), vs = [v, u] ∧ TupI K H v r ∧ TupI K H u p ∧ r ∈ RR ∧ p ∈ placesL r ∧ ∀ H', Same H H' → Q .non H'
theorem scChkP : FnScope ["rings", "place"] ["rings", "place"] (defScope sChkP) := ⟨rfl, rfl, rfl, by decide +kernel, rfl, by decide +kernel, by decide +kernel⟩
theorem ok_chkP (F : FnP K "check_place" sChkP f fd) (F1 : FnP K "check_rings" sChkR f1 fd1) (g1 : mg "check_rings" = some (.ref f1)) (G1 : FnOk P w K mg base CX0 4 f1 fd1 ["rings"] (spNon K)) (F2 : FnP K "is_place" sIsPl f2 fd2) (g2 : mg "is_place" = some (.ref f2)) (G2 : FnOk P w K mg base CX0 3 f2 fd2 ["rings", "thing"] (spIsPl K)) :
    FnOk P w K mg base CX0 5 f fd ["rings", "place"] (spChkP K) := by
  have b1 : Binds K fd1 ["rings"] [] := F1.bindsN fun _ _ _ _ _ _ us hl => match us, hl with | [_], _ => rfl
  have b2 : Binds K fd2 ["rings", "thing"] [] := F2.bindsN fun _ _ _ _ _ _ us hl => match us, hl with | [_, _], _ => rfl
  refine F.ok scChkP (fun vs H Q E h => ?_) (fun cdv A outer s H vs Q E hr h => ?_)
  · obtain ⟨v, u, r, p, rfl, _⟩ := h
    rfl
  · obtain ⟨v, u, r, p, rfl, ⟨a, rfl, ha⟩, ⟨b, rfl, hb⟩, h14, hp, k⟩ := h
    refine ⟨_, PSs.nox (pss_cons (ps_expr (pe_call G1 hr rfl g1 F1.kp b1 .nil pass0 (pa_cons (pv 0) pa_nil)))
      (pss_one (ps_if (pt_not (pt_val (pe_call G2 (hr.mono (by decide)) rfl g2 F2.kp b2 .nil pass0 (pa_cons (pv 0) (pa_cons (pv 1) pa_nil))))) (pss_one ps_never) pss_nil))), ?_⟩
    exact ⟨_, rfl, _, r, rfl, ⟨a, rfl, ha⟩, h14, fun H1 s1 => ⟨_, rfl, _, rfl, _, _, r, p, rfl, ⟨a, rfl, s1.tup ha⟩, ⟨b, rfl, s1.tup hb⟩, h14, hp, fun H2 s2 => ⟨_, rfl, iteF (k H2 (s1.trans s2))⟩⟩⟩
end
end K09

namespace K09
open PySem PySem.Spec PyProof.Rows L2
theorem n1 : ¬ (("rings" : Str) = "order") := by decide +kernel
theorem n2 : ¬ (("rings" : Str) = "polynomial") := by decide +kernel
theorem n3 : ¬ (("rings" : Str) = "degree") := by decide +kernel
theorem n4 : ¬ (("rings" : Str) = "places") := by decide +kernel
theorem n5 : ¬ (("order" : Str) = "polynomial") := by decide +kernel
theorem n6 : ¬ (("order" : Str) = "degree") := by decide +kernel
theorem n7 : ¬ (("order" : Str) = "places") := by decide +kernel
theorem n8 : ¬ (("polynomial" : Str) = "degree") := by decide +kernel
theorem n9 : ¬ (("polynomial" : Str) = "places") := by decide +kernel
theorem n10 : ¬ (("degree" : Str) = "places") := by decide +kernel
/-- the attributes of a floor -/
def flds (a : Addr) (e : Int) (po : Addr) (d : Int) (pl : Addr) : List (Str × V) := [("rings", .ref a), ("order", .int e), ("polynomial", .ref po), ("degree", .int d), ("places", .ref pl)]
theorem pf1 (a : Addr) : putF "rings" (.ref a) [] = [(("rings" : Str), V.ref a)] := rfl
theorem pf2 (a : Addr) (e : Int) : putF "order" (.int e) [("rings", V.ref a)] = [(("rings" : Str), V.ref a), ("order", .int e)] := by simp [putF, n1]
theorem pf3 (a : Addr) (e : Int) (po : Addr) : putF "polynomial" (.ref po) [("rings", V.ref a), ("order", .int e)] = [(("rings" : Str), V.ref a), ("order", .int e), ("polynomial", .ref po)] := by simp [putF, n2, n5]
theorem pf4 (a : Addr) (e : Int) (po : Addr) (d : Int) : putF "degree" (.int d) [("rings", V.ref a), ("order", .int e), ("polynomial", .ref po)] = [(("rings" : Str), V.ref a), ("order", .int e), ("polynomial", .ref po), ("degree", .int d)] := by simp [putF, n3, n6, n8]
theorem pf5 (a : Addr) (e : Int) (po : Addr) (d : Int) (pl : Addr) : putF "places" (.ref pl) [("rings", V.ref a), ("order", .int e), ("polynomial", .ref po), ("degree", .int d)] = flds a e po d pl := by simp [putF, flds, n4, n7, n9, n10]
theorem lk {x y : Str} {v : V} {r : List (Str × V)} (h : ¬ x = y) : ((x, v) :: r).lookup y = r.lookup y := by
  rw [List.lookup_cons]
  have e : (y == x) = false := by
    rw [beq_eq_false_iff_ne]
    exact fun z => h z.symm
  rw [e]
theorem lk0 {x : Str} {v : V} {r : List (Str × V)} : ((x, v) :: r).lookup x = some v := by
  rw [List.lookup_cons, beq_self_eq_true]
theorem g_rings {a e po d pl} : (flds a e po d pl).lookup ("rings" : Str) = some (.ref a) := lk0
theorem g_order {a e po d pl} : (flds a e po d pl).lookup ("order" : Str) = some (.int e) := by
  unfold flds
  rw [lk n1, lk0]
theorem g_poly {a e po d pl} : (flds a e po d pl).lookup ("polynomial" : Str) = some (.ref po) := by
  unfold flds
  rw [lk n2, lk n5, lk0]
theorem g_degree {a e po d pl} : (flds a e po d pl).lookup ("degree" : Str) = some (.int d) := by
  unfold flds
  rw [lk n3, lk n6, lk n8, lk0]
theorem g_places {a e po d pl} : (flds a e po d pl).lookup ("places" : Str) = some (.ref pl) := by
  unfold flds
  rw [lk n4, lk n7, lk n9, lk n10, lk0]
theorem g_no {a e po d pl} : (flds a e po d pl).lookup ("pairing_of" : Str) = none := by
  unfold flds
  rw [lk (by decide +kernel), lk (by decide +kernel), lk (by decide +kernel), lk (by decide +kernel), lk (by decide +kernel)]
  rfl
structure FlT (K : PySem.W.Frag) (mg : Str → Option Value) (C fI fM : Addr) : Prop where
  cl : Cls K C
  aR : NoAttr K C "rings"
  aO : NoAttr K C "order"
  aP : NoAttr K C "polynomial"
  aD : NoAttr K C "degree"
  aL : NoAttr K C "places"
  mkk : Mk K C fI
  mt : Meth K C "pairing_of" fM
  mgC : mg "Floor" = some (.ref C)
/-- a floor of these rings at p -/
def FloorAt (K : PySem.W.Frag) (C : Addr) (H : Hp) (p : Addr) (r : List Int) : Prop := ∃ (dx a po pl : Addr), H p = some (.ins C dx (flds a (ordL r) po (((polyL (ordL r)).length : Int) - 1) pl)) ∧ SqT K H a (r.map V.int) ∧ SqT K H po ((polyL (ordL r)).map V.int) ∧ PlL K H pl (placesL r)
theorem _root_.L2.Same.floor {K : PySem.W.Frag} {C : Addr} {H H' : Hp} {p : Addr} {r : List Int} (e : Same H H') (h : FloorAt K C H p r) : FloorAt K C H' p r := by
  obtain ⟨dx, a, po, pl, h1, h2, h3, h4⟩ := h
  exact ⟨dx, a, po, pl, e _ _ h1, e.tup h2, e.tup h3, e.pll h4⟩
section
variable {P : Program} {w : World} {K : PySem.W.Frag} {mg : Str → Option Value} {base : Heap} {f f1 f2 f3 f4 C fI fM : Addr} {fd fd1 fd2 fd3 fd4 : FuncData}
def spFInit (K : PySem.W.Frag) (C : Addr) : Sp := fun vs H Q _ => ∃ (p dx : Addr) (v : V) (r : List Int), vs = [.ref p, v] ∧ H p = some (.ins C dx []) ∧ TupI K H v r ∧ r ∈ RR ∧ ∀ H', FloorAt K C H' p r → (∀ b o, H b = some o → b ≠ p → H' b = some o) → Q .non H'
theorem scFI : FnScope ["self", "rings"] ["self", "rings"] (defScope sFInit) := ⟨rfl, rfl, rfl, by decide +kernel, rfl, by decide +kernel, by decide +kernel⟩
theorem sqt_ins {K : PySem.W.Frag} {H : Hp} {a D : Addr} {xs : List V} {C dx : Addr} {fs : List (Str × V)} {o : HO} (h : SqT K H a xs) (hD : H D = some (.ins C dx fs)) : SqT K (upd H D o) a xs := by
  rcases h with h | h
  · rcases h with h | ⟨u, h⟩
    · exact .inl (.inl (by rw [upd_ne (ne_of h hD (by intro z; cases z))]; exact h))
    · exact .inl (.inr ⟨u, by rw [upd_ne (ne_of h hD (by intro z; cases z))]; exact h⟩)
  · exact .inr h
theorem pll_ins {K : PySem.W.Frag} {H : Hp} {a D : Addr} {ps : List (List Int)} {C dx : Addr} {fs : List (Str × V)} {o : HO} (h : PlL K H a ps) (hD : H D = some (.ins C dx fs)) : PlL K (upd H D o) a ps := by
  obtain ⟨ks, h1, h2, h3⟩ := h
  exact ⟨ks, by rw [upd_ne (ne_of h1 hD (by intro z; cases z))]; exact h1, h2, ⟨fun p hp => by rw [upd_ne (ne_of (h3.out p hp) hD (by intro z; cases z))]; exact h3.out p hp⟩⟩
theorem ok_fInit (F : FunD K "__init__" "Floor.__init__" (defArgs sFInit) (defBody sFInit) (defScope sFInit) [] [] f fd) (B : Bl mg) (T : FlT K mg C fI fM) (F1 : FnP K "common_order" sOrder f1 fd1) (g1 : mg "common_order" = some (.ref f1)) (G1 : FnOk P w K mg base CX0 1 f1 fd1 ["rings"] (spOrder K))
    (F2 : FnP K "polynomial_of" sPoly f2 fd2) (g2 : mg "polynomial_of" = some (.ref f2)) (G2 : FnOk P w K mg base CX0 2 f2 fd2 ["order"] (spPoly K)) (F3 : FnP K "list_places" sPlaces f3 fd3) (g3 : mg "list_places" = some (.ref f3)) (G3 : FnOk P w K mg base CX0 1 f3 fd3 ["rings"] (spPlaces K)) :
    FnOk P w K mg base CX0 3 f fd ["self", "rings"] (spFInit K C) := by
  have b1 : Binds K fd1 ["rings"] [] := F1.bindsN fun _ _ _ _ _ _ us hl => match us, hl with | [_], _ => rfl
  have b2 : Binds K fd2 ["order"] [] := F2.bindsN fun _ _ _ _ _ _ us hl => match us, hl with | [_], _ => rfl
  have b3 : Binds K fd3 ["rings"] [] := F3.bindsN fun _ _ _ _ _ _ us hl => match us, hl with | [_], _ => rfl
  refine F.ok scFI (fun vs H Q E h => ?_) (fun cdv A outer s H vs Q E hr h => ?_)
  · obtain ⟨p, dx, v, r, rfl, _⟩ := h
    rfl
  · obtain ⟨p, dx, v, r, rfl, hp, ⟨a, rfl, ha⟩, h14, k⟩ := h
    refine ⟨_, PSs.nox (pss_cons (ps_fld (pv 0) (pv 1) rfl)
      (pss_cons (ps_fld (pv 0) (pe_call G1 (hr.mono (by decide)) rfl g1 F1.kp b1 .nil pass0 (pa_cons (pv 1) pa_nil)) rfl)
      (pss_cons (ps_fld (pv 0) (pe_call G2 hr rfl g2 F2.kp b2 .nil pass0 (pa_cons (pe_fld (pv 0) rfl) pa_nil)) rfl)
      (pss_cons (ps_fld (pv 0) (pe_op op_sub (pe_callB call_len_seq (by rfl) (B "len" (by decide +kernel)) PySem.boot_len (pa_cons (pe_fld (pv 0) rfl) pa_nil)) pe_int) rfl)
      (pss_one (ps_fld (pv 0) (pe_call G3 (hr.mono (by decide)) rfl g3 F3.kp b3 .nil pass0 (pa_cons (pv 1) pa_nil)) rfl)))))), ?_⟩
    -- self.rings = rings
    refine ⟨_, rfl, _, rfl, p, C, dx, _, rfl, hp, T.cl, T.aR, (by show 0 < 1000; decide), ?_⟩
    rw [pf1]
    generalize hH1 : upd H p (.ins C dx [(("rings" : Str), V.ref a)]) = H1
    have q1 : H1 p = some (.ins C dx [(("rings" : Str), V.ref a)]) := by rw [← hH1, upd_same]
    have a1 : SqT K H1 a (r.map V.int) := by rw [← hH1]; exact sqt_ins ha hp
    have k1 : ∀ b o, H b = some o → b ≠ p → H1 b = some o := fun b o e n => by rw [← hH1, upd_ne n]; exact e
    -- self.order = common_order(rings)
    refine ⟨_, rfl, _, r, rfl, ⟨a, rfl, a1⟩, h14, fun H2 s2 => ?_⟩
    refine ⟨_, rfl, p, C, dx, _, rfl, s2 _ _ q1, T.cl, T.aO, (by show 1 < 1000; decide), ?_⟩
    rw [pf2]
    generalize hH3 : upd H2 p (.ins C dx [(("rings" : Str), V.ref a), ("order", .int (ordL r))]) = H3
    have q3 : H3 p = some (.ins C dx [(("rings" : Str), V.ref a), ("order", .int (ordL r))]) := by rw [← hH3, upd_same]
    have a3 : SqT K H3 a (r.map V.int) := by rw [← hH3]; exact sqt_ins (s2.tup a1) (s2 _ _ q1)
    have k3 : ∀ b o, H b = some o → b ≠ p → H3 b = some o := fun b o e n => by rw [← hH3, upd_ne n]; exact s2 _ _ (k1 b o e n)
    -- self.polynomial = polynomial_of(self.order)
    refine ⟨_, rfl, p, C, dx, _, _, rfl, q3, T.cl, T.aO, by rw [lk n1, lk0], ordL r, rfl, er_in r h14, fun po H4 s4 npo h4 => ?_⟩
    refine ⟨_, rfl, p, C, dx, _, rfl, s4 _ _ q3, T.cl, T.aP, (by show 2 < 1000; decide), ?_⟩
    rw [pf3]
    generalize hH5 : upd H4 p (.ins C dx [(("rings" : Str), V.ref a), ("order", .int (ordL r)), ("polynomial", .ref po)]) = H5
    have q5 : H5 p = some (.ins C dx [(("rings" : Str), V.ref a), ("order", .int (ordL r)), ("polynomial", .ref po)]) := by rw [← hH5, upd_same]
    have a5 : SqT K H5 a (r.map V.int) := by rw [← hH5]; exact sqt_ins (s4.tup a3) (s4 _ _ q3)
    have p5 : SqT K H5 po ((polyL (ordL r)).map V.int) := by rw [← hH5]; exact sqt_ins (SqT.of h4) (s4 _ _ q3)
    have k5 : ∀ b o, H b = some o → b ≠ p → H5 b = some o := fun b o e n => by rw [← hH5, upd_ne n]; exact s4 _ _ (k3 b o e n)
    -- self.degree = len(self.polynomial) - 1
    refine ⟨_, rfl, p, C, dx, _, _, rfl, q5, T.cl, T.aP, by rw [lk n2, lk n5, lk0], po, _, rfl, .inr p5, _, _, rfl, rfl, ?_⟩
    refine ⟨_, rfl, p, C, dx, _, rfl, q5, T.cl, T.aD, (by show 3 < 1000; decide), ?_⟩
    rw [pf4]
    generalize hd : ((((polyL (ordL r)).map V.int).length : Int) - 1) = d
    generalize hH6 : upd H5 p (.ins C dx [(("rings" : Str), V.ref a), ("order", .int (ordL r)), ("polynomial", .ref po), ("degree", .int d)]) = H6
    have q6 : H6 p = some (.ins C dx [(("rings" : Str), V.ref a), ("order", .int (ordL r)), ("polynomial", .ref po), ("degree", .int d)]) := by rw [← hH6, upd_same]
    have a6 : SqT K H6 a (r.map V.int) := by rw [← hH6]; exact sqt_ins a5 q5
    have p6 : SqT K H6 po ((polyL (ordL r)).map V.int) := by rw [← hH6]; exact sqt_ins p5 q5
    have k6 : ∀ b o, H b = some o → b ≠ p → H6 b = some o := fun b o e n => by rw [← hH6, upd_ne n]; exact k5 b o e n
    -- self.places = list_places(rings)
    refine ⟨_, rfl, _, r, rfl, ⟨a, rfl, a6⟩, h14, fun pl H7 s7 npl h7 => ?_⟩
    refine ⟨_, rfl, p, C, dx, _, rfl, s7 _ _ q6, T.cl, T.aL, (by show 4 < 1000; decide), ?_⟩
    rw [pf5]
    rw [List.length_map] at hd
    subst hd
    refine k _ ⟨dx, a, po, pl, upd_same, sqt_ins (s7.tup a6) (s7 _ _ q6), sqt_ins (s7.tup p6) (s7 _ _ q6), pll_ins h7 (s7 _ _ q6)⟩ fun b o e n => ?_
    rw [upd_ne n]
    exact s7 _ _ (k6 b o e n)
def spFPair (K : PySem.W.Frag) (C : Addr) : Sp := fun vs H Q _ => ∃ (p : Addr) (u z : V) (r x l : List Int), vs = [.ref p, u, z] ∧ FloorAt K C H p r ∧ TupI K H u x ∧ TupI K H z l ∧ r ∈ RR ∧ x ∈ placesL r ∧ l ∈ placesL r ∧ Q (.int (pairL r (ordL r) x l)) H
theorem scFP : FnScope ["self", "place", "label"] ["self", "place", "label"] (defScope sFPair) := ⟨rfl, rfl, rfl, by decide +kernel, rfl, by decide +kernel, by decide +kernel⟩
theorem ok_fPair (F : FunD K "pairing_of" "Floor.pairing_of" (defArgs sFPair) (defBody sFPair) (defScope sFPair) [] [] f fd) (B : Bl mg) (T : FlT K mg C fI fM) (F1 : FnP K "paired" sPaired f1 fd1) (g1 : mg "paired" = some (.ref f1)) : FnOk P w K mg base CX0 2 f fd ["self", "place", "label"] (spFPair K C) := by
  have G1 : FnOk P w K mg base CX0 1 f1 fd1 ["rings", "order", "place", "label"] (spPaired K) := ok_paired F1 B
  have b1 : Binds K fd1 ["rings", "order", "place", "label"] [] := F1.bindsN fun _ _ _ _ _ _ us hl => match us, hl with | [_, _, _, _], _ => rfl
  refine F.ok scFP (fun vs H Q E h => ?_) (fun cdv A outer s H vs Q E hr h => ?_)
  · obtain ⟨p, u, z, r, x, l, rfl, _⟩ := h
    rfl
  · obtain ⟨p, u, z, r, x, l, rfl, ⟨dx, a, po, pl, h1, h2, h3, h4⟩, hx, hl, h14, mx, ml, k⟩ := h
    refine ⟨_, PSs.nox (pss_one (ps_ret (pe_call G1 hr rfl g1 F1.kp b1 .nil pass0 (pa_cons (pe_fld (pv 0) rfl) (pa_cons (pe_fld (pv 0) rfl) (pa_cons (pv 1) (pa_cons (pv 2) pa_nil))))))), ?_⟩
    have eb := er_bd _ (er_in r h14)
    refine ⟨_, rfl, p, C, dx, _, _, rfl, h1, T.cl, T.aR, g_rings, _, rfl, p, C, dx, _, _, rfl, h1, T.cl, T.aO, g_order, _, rfl, _, rfl, ?_⟩
    exact ⟨_, _, _, r, x, l, ordL r, rfl, ⟨a, rfl, h2⟩, hx, hl, h14, rr_whole h14 mx, rr_whole h14 ml, rr_it r h14 x mx, rr_it r h14 l ml, by omega, by omega, k⟩
end
end K09

/-! Numbers: as values; lowered. -/
namespace K09
open PySem PySem.Spec PyProof.Rows L2
def NumAt (K : PySem.W.Frag) (H : Hp) (v : V) (n : Num) : Prop := ∃ p t, v = .ref p ∧ SqT K H p [.ref t, .int n.2] ∧ SqT K H t (n.1.map V.int)
theorem _root_.L2.Same.num {K : PySem.W.Frag} {H H' : Hp} {v : V} {n : Num} (e : Same H H') (h : NumAt K H v n) : NumAt K H' v n := by
  obtain ⟨p, t, rfl, h1, h2⟩ := h
  exact ⟨p, t, rfl, e.tup h1, e.tup h2⟩
def Nums (K : PySem.W.Frag) (H : Hp) (vs : List V) (ns : List Num) : Prop := vs.length = ns.length ∧ ∀ (i : Nat) v n, vs[i]? = some v → ns[i]? = some n → NumAt K H v n
theorem _root_.L2.Same.nums {K : PySem.W.Frag} {H H' : Hp} {vs : List V} {ns : List Num} (e : Same H H') (h : Nums K H vs ns) : Nums K H' vs ns := ⟨h.1, fun i v n e1 e2 => e.num (h.2 i v n e1 e2)⟩
theorem Nums.get {K : PySem.W.Frag} {H : Hp} {vs : List V} {ns : List Num} (h : Nums K H vs ns) {i : Nat} {v : V} (hi : vs[i]? = some v) : ∃ n, ns[i]? = some n ∧ NumAt K H v n := by
  have hl := ltL hi
  rw [h.1] at hl
  exact ⟨_, List.getElem?_eq_getElem hl, h.2 i v _ hi (List.getElem?_eq_getElem hl)⟩
theorem nums_nil {K : PySem.W.Frag} {H : Hp} : Nums K H [] [] := ⟨rfl, fun i v n e _ => by simp at e⟩
theorem Nums.snoc {K : PySem.W.Frag} {H : Hp} {vs : List V} {ns : List Num} {v : V} {n : Num} (h : Nums K H vs ns) (q : NumAt K H v n) : Nums K H (vs ++ [v]) (ns ++ [n]) := by
  refine ⟨by rw [List.length_append, List.length_append, h.1]; rfl, fun i v' n' e1 e2 => ?_⟩
  rcases Nat.lt_or_ge i vs.length with z | z
  · rw [List.getElem?_append_left z] at e1
    rw [List.getElem?_append_left (by rw [← h.1]; exact z)] at e2
    exact h.2 i v' n' e1 e2
  · have e := ltL e1
    rw [List.length_append] at e
    have e0 : i = vs.length := by simp at e; omega
    subst e0
    rw [List.getElem?_concat_length] at e1
    rw [h.1, List.getElem?_concat_length] at e2
    cases e1
    cases e2
    exact q
/-- a row: a tuple of numbers -/
def RowAt (K : PySem.W.Frag) (H : Hp) (v : V) (ns : List Num) : Prop := ∃ p vs, v = .ref p ∧ SqT K H p vs ∧ Nums K H vs ns
theorem _root_.L2.Same.row {K : PySem.W.Frag} {H H' : Hp} {v : V} {ns : List Num} (e : Same H H') (h : RowAt K H v ns) : RowAt K H' v ns := by
  obtain ⟨p, vs, rfl, h1, h2⟩ := h
  exact ⟨p, vs, rfl, e.tup h1, e.nums h2⟩
/-! ### lowered -/
theorem gcdI_bd {a b : Int} (h : 1 ≤ a) : 1 ≤ gcdI a b ∧ gcdI a b ≤ a := by
  unfold gcdI
  have h1 := Nat.gcd_pos_of_pos_left b.natAbs (show 0 < a.natAbs by omega)
  have h2 := Nat.gcd_le_left b.natAbs (show 0 < a.natAbs by omega)
  omega
theorem lowC_bd : ∀ (tops : List Int) (b : Int), 1 ≤ b → 1 ≤ lowC tops b ∧ lowC tops b ≤ b
  | [], b, h => ⟨h, Int.le_refl _⟩
  | t :: ts, b, h => by
    have g := gcdI_bd (b := t) h
    have r := lowC_bd ts (gcdI b t) g.1
    show 1 ≤ lowC ts (gcdI b t) ∧ lowC ts (gcdI b t) ≤ b
    omega
theorem pi_or {X : Cx} {tg e : Expr} {w1 w2 : TI} (h1 : PI X tg e w1) (h2 : PI X tg e w2) : PI X tg e (fun σ H R => w1 σ H R ∨ w2 σ H R) :=
  ⟨fun pins s σ H R I h => h.elim (fun q => h1.run pins s σ H R I q) (fun q => h2.run pins s σ H R I q)⟩
section
variable {P : Program} {w : World} {K : PySem.W.Frag} {mg : Str → Option Value} {base : Heap} {f f1 f2 f3 f4 f5 : Addr} {fd fd1 fd2 fd3 fd4 fd5 : FuncData}
def spLow (K : PySem.W.Frag) : Sp := fun vs H Q _ => ∃ (a : Addr) (tops : List Int) (b : Int), vs = [.ref a, .int b] ∧ (SqL K H a (tops.map V.int) ∨ SqT K H a (tops.map V.int)) ∧ 1 ≤ b ∧ b < 1073741824 ∧ tops.length ≤ 1000 ∧ ∀ v H', Same H H' → NumAt K H' v (lowL tops b) → Q v H'
theorem scLow : FnScope ["tops", "bottom", "common", "top"] ["tops", "bottom"] (defScope sLow) := ⟨rfl, rfl, rfl, by decide +kernel, rfl, by decide +kernel, by decide +kernel⟩
theorem ok_low (F : FnP K "lowered" sLow f fd) (B : Bl mg) (gG : mg "gcd" = some (.builtin "math.gcd")) : FnOk P w K mg base CX0 1 f fd ["tops", "bottom"] (spLow K) := by
  refine F.ok scLow (fun vs H Q E h => ?_) (fun cdv A outer s H vs Q E hr h => ?_)
  · obtain ⟨a, tops, b, rfl, _⟩ := h
    rfl
  · obtain ⟨a, tops, b, rfl, ha, b1, b2, hl, k⟩ := h
    refine ⟨_, PSs.nox (pss_cons (ps_set (i := 2) scLow.nd rfl (Or.inr rfl) (pe_callB call_abs (by rfl) (B "abs" (by decide +kernel)) (by decide +kernel) (pa_cons (pv 1) pa_nil)))
      (pss_cons (ps_for PassesOwn.never rfl (pi_or (pi_list (pv 0)) (pi_tup (pv 0))) (pg_name (i := 3) scLow.nd rfl (Or.inl rfl)) (pss_one (ps_set (i := 2) scLow.nd rfl (Or.inr rfl) (pe_callBfun cr_gcd rfl gG (pa_cons (pv 2) (pa_cons (pv 3) pa_nil))))))
      (pss_cons (ps_if (pt_cmpR op_lt (pv 1) pe_int (nomark _)) (pss_one (ps_set (i := 2) scLow.nd rfl (Or.inr rfl) (pe_un un_neg (pv 2)))) pss_nil)
      (pss_one (ps_ret (pe_tup (pa_cons (pe_callTy call_tuple_of (by rfl) (B "tuple" (by decide +kernel)) (by decide +kernel) (pa_cons
        (pe_lc (own := [("top", 3)]) (g := gName 3) (tt := tYes) (te := tOp rFdv (tVar 3) (tVar 2)) rfl scLow.nd (pi_or (pi_list (pv 0)) (pi_tup (pv 0))) (blkOk_by (own := [("top", 3)]) (N := ["tops", "bottom", "common", "top"]) (sc := defScope sLow) (by decide +kernel))
          (fun _ _ _ _ _ => pg_name (i := 3) scLow.nd rfl (Or.inl rfl)) (fun _ _ _ _ _ => pts_nil) (fun _ _ _ _ _ => pe_op op_fdiv (pv 3) (pv 2))) pa_nil)) (pa_cons (pe_op op_fdiv (pv 1) (pv 2)) pa_nil)))))))), ?_⟩
    refine ⟨_, rfl, b, rfl, ?_⟩
    rw [if_neg (show ¬ b < 0 by omega)]
    rcases ha with ha | ha
    · refine Or.inl ⟨_, rfl, a, rfl, ⟨_, ha⟩, for_list (K := K) (a := a) (xs := tops.map V.int) (fun i σ H2 => ∃ u, σ = [some (.ref a), some (.int b), some (.int (lowC (tops.take i) b)), u] ∧ H2 = H) ⟨none, rfl, rfl⟩ (fun i σ H2 _ ⟨_, _, e⟩ => by rw [e]; exact ha) ?_ ?_⟩
      · rintro i y σ H2 hi ⟨u, rfl, rfl⟩
        obtain ⟨t, rfl, ht⟩ := getI hi
        refine ⟨_, rfl, _, rfl, _, _, rfl, ?_⟩
        refine ⟨some (.int t), ?_, rfl⟩
        have e : lowC (tops.take (i + 1)) b = gcdI (lowC (tops.take i) b) t := by
          rw [takeS ht]
          unfold lowC
          rw [List.foldl_append]
          rfl
        rw [e]
        rfl
      · rintro σ H2 ⟨u, rfl, rfl⟩
        rw [List.length_map, List.take_length]
        have cb := lowC_bd tops b b1
        generalize hC : lowC tops b = C at cb
        refine ⟨_, rfl, _, _, rfl, rfl, _, rfl, ?_⟩
        refine ite2 (fun c => absurd (of_decide_eq_true c) (by omega)) fun _ => ?_
        refine Or.inl ⟨_, rfl, a, rfl, ⟨_, ha⟩, fun D hD => ?_⟩
        refine lc_list (K := K) (a := a) (xs := tops.map V.int) (fun i H3 => Same H2 H3 ∧ H3 D = some (.lst (((tops.take i).map fun t => t / C).map V.int))) ⟨same_upd hD, by rw [upd_same]; rfl⟩ (fun i H3 _ ⟨s3, _⟩ => s3.seq ha) ?_ ?_
        · rintro i y H3 hi ⟨s3, h3⟩
          obtain ⟨t, rfl, ht⟩ := getI hi
          refine ⟨rfl, _, rfl, _, rfl, _, _, rfl, rfl, ⟨by omega, by omega⟩, ?_⟩
          refine ⟨_, h3, sl_lt (by rw [List.length_map, List.length_map, List.length_take]; omega), same_at s3 hD, ?_⟩
          rw [upd_same, takeS ht, List.map_append, List.map_append]
          rfl
        · rintro H3 ⟨s3, h3⟩
          rw [List.length_map, List.take_length] at h3
          refine ⟨D, _, rfl, .inl ⟨SqL.of h3, fun t ht => ?_⟩⟩
          refine ⟨_, rfl, _, rfl, _, _, rfl, rfl, ⟨by omega, by omega⟩, by show 2 ≤ sizeLine; decide, fun p hp => ?_⟩
          have st := same_new (o := .tup ((tops.map fun t => t / C).map V.int)) s3 ht
          refine k _ _ (same_new st hp) ⟨p, t, rfl, ?_, ?_⟩
          · refine SqT.of ?_
            rw [upd_same]
            unfold lowL
            rw [hC]
          · unfold lowL
            rw [hC]
            exact (same_upd hp).tup (SqT.of upd_same)
    · refine Or.inr ⟨_, rfl, a, rfl, ⟨_, ha⟩, for_tup (K := K) (a := a) (xs := tops.map V.int) (fun i σ H2 => ∃ u, σ = [some (.ref a), some (.int b), some (.int (lowC (tops.take i) b)), u] ∧ H2 = H) ⟨none, rfl, rfl⟩ (fun i σ H2 _ ⟨_, _, e⟩ => by rw [e]; exact ha) ?_ ?_⟩
      · rintro i y σ H2 hi ⟨u, rfl, rfl⟩
        obtain ⟨t, rfl, ht⟩ := getI hi
        refine ⟨_, rfl, _, rfl, _, _, rfl, ?_⟩
        refine ⟨some (.int t), ?_, rfl⟩
        have e : lowC (tops.take (i + 1)) b = gcdI (lowC (tops.take i) b) t := by
          rw [takeS ht]
          unfold lowC
          rw [List.foldl_append]
          rfl
        rw [e]
        rfl
      · rintro σ H2 ⟨u, rfl, rfl⟩
        rw [List.length_map, List.take_length]
        have cb := lowC_bd tops b b1
        generalize hC : lowC tops b = C at cb
        refine ⟨_, rfl, _, _, rfl, rfl, _, rfl, ?_⟩
        refine ite2 (fun c => absurd (of_decide_eq_true c) (by omega)) fun _ => ?_
        refine Or.inr ⟨_, rfl, a, rfl, ⟨_, ha⟩, fun D hD => ?_⟩
        refine lc_tup (K := K) (a := a) (xs := tops.map V.int) (fun i H3 => Same H2 H3 ∧ H3 D = some (.lst (((tops.take i).map fun t => t / C).map V.int))) ⟨same_upd hD, by rw [upd_same]; rfl⟩ (fun i H3 _ ⟨s3, _⟩ => s3.tup ha) ?_ ?_
        · rintro i y H3 hi ⟨s3, h3⟩
          obtain ⟨t, rfl, ht⟩ := getI hi
          refine ⟨rfl, _, rfl, _, rfl, _, _, rfl, rfl, ⟨by omega, by omega⟩, ?_⟩
          refine ⟨_, h3, sl_lt (by rw [List.length_map, List.length_map, List.length_take]; omega), same_at s3 hD, ?_⟩
          rw [upd_same, takeS ht, List.map_append, List.map_append]
          rfl
        · rintro H3 ⟨s3, h3⟩
          rw [List.length_map, List.take_length] at h3
          refine ⟨D, _, rfl, .inl ⟨SqL.of h3, fun t ht => ?_⟩⟩
          refine ⟨_, rfl, _, rfl, _, _, rfl, rfl, ⟨by omega, by omega⟩, by show 2 ≤ sizeLine; decide, fun p hp => ?_⟩
          have st := same_new (o := .tup ((tops.map fun t => t / C).map V.int)) s3 ht
          refine k _ _ (same_new st hp) ⟨p, t, rfl, ?_, ?_⟩
          · refine SqT.of ?_
            rw [upd_same]
            unfold lowL
            rw [hC]
          · unfold lowL
            rw [hC]
            exact (same_upd hp).tup (SqT.of upd_same)
end
end K09

namespace K09
open PySem PySem.Spec PyProof.Rows L2
/-- a list of lists of ints -/
def TopsAt (H : Hp) (vs : List V) (tss : List (List Int)) : Prop := vs.length = tss.length ∧ ∀ (i : Nat) v ts, vs[i]? = some v → tss[i]? = some ts → ∃ t, v = .ref t ∧ H t = some (.lst (ts.map V.int))
theorem TopsAt.same {H H' : Hp} {vs : List V} {tss : List (List Int)} (h : TopsAt H vs tss) (s : Same H H') : TopsAt H' vs tss := ⟨h.1, fun i v ts e1 e2 => by
  obtain ⟨t, rfl, q⟩ := h.2 i v ts e1 e2
  exact ⟨t, rfl, s _ _ q⟩⟩
theorem TopsAt.up {H : Hp} {vs : List V} {tss : List (List Int)} {D : Addr} {o : HO} (h : TopsAt H vs tss) (hD : H D = some (.lst vs)) : TopsAt (upd H D o) vs tss := ⟨h.1, fun i v ts e1 e2 => by
  obtain ⟨t, rfl, q⟩ := h.2 i v ts e1 e2
  refine ⟨t, rfl, ?_⟩
  rw [upd_ne fun z => ?_]
  · exact q
  · rw [z, hD] at q
    have e := HO.lst.inj (Option.some.inj q)
    rw [e] at e1
    obtain ⟨c, hc, _⟩ := getI e1
    cases hc⟩
theorem TopsAt.snoc {H : Hp} {vs : List V} {tss : List (List Int)} {t : Addr} {ts : List Int} (h : TopsAt H vs tss) (q : H t = some (.lst (ts.map V.int))) : TopsAt H (vs ++ [.ref t]) (tss ++ [ts]) := by
  refine ⟨by rw [List.length_append, List.length_append, h.1]; rfl, fun i v' n' e1 e2 => ?_⟩
  rcases Nat.lt_or_ge i vs.length with z | z
  · rw [List.getElem?_append_left z] at e1
    rw [List.getElem?_append_left (by rw [← h.1]; exact z)] at e2
    exact h.2 i v' n' e1 e2
  · have e := ltL e1
    rw [List.length_append] at e
    have e0 : i = vs.length := by simp at e; omega
    subst e0
    rw [List.getElem?_concat_length] at e1
    rw [h.1, List.getElem?_concat_length] at e2
    cases e1
    cases e2
    exact ⟨t, rfl, q⟩
section
variable {P : Program} {w : World} {K : PySem.W.Frag} {mg : Str → Option Value} {base : Heap} {f f1 f2 f3 f4 f5 : Addr} {fd fd1 fd2 fd3 fd4 fd5 : FuncData}
def spLev (K : PySem.W.Frag) : Sp := fun vs H Q _ => ∃ (v : V) (ns : List Num), vs = [v] ∧ RowAt K H v ns ∧ ns.length ≤ 1000 ∧ (∀ n ∈ ns, 1 ≤ n.2 ∧ n.2 ≤ 1000 ∧ n.1.length ≤ 1000) ∧ (∀ i ≤ ns.length, 1 ≤ levB (ns.take i) ∧ levB (ns.take i) ≤ 1000) ∧ ∀ p t ts H', Same H H' → SqT K H' p [.ref t, .int (levB ns)] → H t = none → H' t = some (.lst ts) → TopsAt H' ts (levT ns) → Q (.ref p) H'
abbrev levN : List Str := ["numbers", "bottom", "_", "under", "tops", "top"]
def levSc : Scope := { kind := .function, names := [(".0", .local), ("tops", .local), ("under", .cell), ("bottom", .free)], isGenerator := false, isCoroutine := false }
theorem scLev : FnScope levN ["numbers"] (defScope sLev) := ⟨rfl, rfl, rfl, by decide +kernel, rfl, by decide +kernel, by decide +kernel⟩
theorem ok_lev (F : FnP K "levelled" sLev f fd) (B : Bl mg) (gL : mg "lcm" = some (.builtin "math.lcm")) : FnOk P w K mg base CX0 1 f fd ["numbers"] (spLev K) := by
  refine F.ok scLev (fun vs H Q E h => ?_) (fun cdv A outer s H vs Q E hr h => ?_)
  · obtain ⟨v, ns, rfl, _⟩ := h
    rfl
  · obtain ⟨v, ns, rfl, hR, hl, hb, hB, k⟩ := h
    refine ⟨_, PSs.nox (pss_cons (ps_set (i := 1) scLev.nd rfl (Or.inr rfl) pe_int)
      (pss_cons (ps_for PassesOwn.never rfl (pi_tup (pv 0)) (pg_tup rfl (pgs_cons (pg_name (i := 2) scLev.nd rfl (Or.inl rfl)) (pgs_cons (pg_name (i := 3) scLev.nd rfl (Or.inl rfl)) pgs_nil))) (pss_one (ps_set (i := 1) scLev.nd rfl (Or.inr rfl) (pe_callBfun cr_lcm rfl gL (pa_cons (pv 1) (pa_cons (pv 3) pa_nil))))))
      (pss_one (ps_ret (pe_tup (pa_cons
        (pe_lc (own := [("tops", 4), ("under", 3)]) (g := gTup K 2 (gCons (gName 4) (gCons (gName 3) gNil))) (tt := tYes)
          (te := tLc (iTup K (tVar 4)) (gName 5) tYes (tOp rMul (tVar 5) (tOp rFdv (tVar 1) (tVar 3))) [5]) rfl scLev.nd (pi_tup (pv 0)) (blkOk_by (own := [("tops", 4), ("under", 3)]) (N := levN) (sc := defScope sLev) (by decide +kernel))
          (fun _ _ _ _ _ => pg_tup rfl (pgs_cons (pg_name (i := 4) scLev.nd rfl (Or.inl rfl)) (pgs_cons (pg_name (i := 3) scLev.nd rfl (Or.inr rfl)) pgs_nil))) (fun _ _ _ _ _ => pts_nil)
          (fun _ _ _ _ _ => pe_lc (own := [("top", 5)]) (g := gName 5) (tt := tYes) (te := tOp rMul (tVar 5) (tOp rFdv (tVar 1) (tVar 3))) rfl scLev.nd (pi_tup (pv 4)) (blkOk_by (own := [("top", 5)]) (N := levN) (sc := relS levSc (defScope sLev)) (by decide +kernel))
            (fun _ _ _ _ _ => pg_name (i := 5) scLev.nd rfl (Or.inl rfl)) (fun _ _ _ _ _ => pts_nil) (fun _ _ _ _ _ => pe_op op_mul (pv 5) (pe_op op_fdiv (pv 1) (pv 3))))) (pa_cons (pv 1) pa_nil))))))), ?_⟩
    obtain ⟨a, vs, rfl, ha, hN⟩ := hR
    have hvl := hN.1
    refine ⟨_, rfl, a, rfl, ⟨_, ha⟩, for_tup (K := K) (a := a) (xs := vs) (fun i σ H2 => ∃ u2 u3, σ = [some (.ref a), some (.int (levB (ns.take i))), u2, u3, none, none] ∧ H2 = H) ⟨none, none, rfl, rfl⟩ (fun i σ H2 _ ⟨_, _, _, e⟩ => by rw [e]; exact ha) ?_ ?_⟩
    · rintro i y σ H2 hi ⟨u2, u3, rfl, rfl⟩
      obtain ⟨n, hn, p, t, rfl, hp, ht⟩ := hN.get hi
      have b0 := hB i (by have := ltL hn; omega)
      have b1 := hB (i + 1) (by have := ltL hn; omega)
      have bn := hb n (List.mem_of_getElem? hn)
      have e : levB (ns.take (i + 1)) = lcmI (levB (ns.take i)) n.2 := by
        rw [takeS hn]
        unfold levB
        rw [List.foldl_append]
        rfl
      refine ⟨p, _, rfl, hp, rfl, _, _, rfl, _, _, rfl, rfl, ?_⟩
      refine ⟨_, rfl, _, rfl, _, _, rfl, by omega, by omega, by rw [← e]; omega, ?_⟩
      refine ⟨some (.ref t), some (.int n.2), ?_, rfl⟩
      rw [e]
      rfl
    · rintro σ H2 ⟨u2, u3, rfl, rfl⟩
      rw [hvl, List.take_length]
      have bB := hB ns.length (Nat.le_refl _)
      rw [List.take_length] at bB
      generalize hBB : levB ns = BB at bB
      refine ⟨_, rfl, a, rfl, ⟨_, ha⟩, fun D hD => ?_⟩
      refine lc_tup (K := K) (a := a) (xs := vs) (fun i H3 => Same H2 H3 ∧ ∃ ts, H3 D = some (.lst ts) ∧ TopsAt H3 ts ((ns.take i).map fun n => n.1.map fun t => t * (BB / n.2))) ⟨same_upd hD, [], upd_same, rfl, fun i v ts e _ => by simp at e⟩ (fun i H3 _ ⟨s3, _⟩ => s3.tup ha) ?_ ?_
      · rintro i y H3 hi ⟨s3, ts, h3, tt⟩
        obtain ⟨n, hn, p, t, rfl, hp, ht⟩ := hN.get hi
        have bn := hb n (List.mem_of_getElem? hn)
        refine ⟨p, _, rfl, s3.tup hp, rfl, _, _, rfl, _, _, rfl, rfl, rfl, _, rfl, t, rfl, ⟨_, s3.tup ht⟩, fun D2 hD2 => ?_⟩
        have nD2 : D ≠ D2 := ne_of_none h3 hD2
        refine lc_tup (K := K) (a := t) (xs := n.1.map V.int) (fun j H4 => Same H3 H4 ∧ H4 D2 = some (.lst (((n.1.take j).map fun t => t * (BB / n.2)).map V.int))) ⟨same_upd hD2, by rw [upd_same]; rfl⟩ (fun j H4 _ ⟨s4, _⟩ => s4.tup (s3.tup ht)) ?_ ?_
        · rintro j y2 H4 hj ⟨s4, h4⟩
          obtain ⟨c, rfl, hc⟩ := getI hj
          have q1 : 0 ≤ BB / n.2 := Int.ediv_nonneg (by omega) (by omega)
          have q2 : BB / n.2 ≤ BB := Int.ediv_le_self _ (by omega)
          refine ⟨rfl, _, rfl, _, rfl, _, rfl, _, _, rfl, rfl, ⟨by omega, by omega⟩, _, _, rfl, rfl, Or.inr ⟨by omega, by omega⟩, ?_⟩
          refine ⟨_, h4, sl_lt (by rw [List.length_map, List.length_map, List.length_take]; omega), same_at s4 hD2, ?_⟩
          rw [upd_same, takeS hc, List.map_append, List.map_append]
          rfl
        · rintro H4 ⟨s4, h4⟩
          rw [List.length_map, List.take_length] at h4
          refine ⟨ts, s4 _ _ h3, ?_, same_at (s3.trans s4) hD, _, upd_same, ?_⟩
          · have := tt.1
            rw [List.length_map, List.length_take] at this
            exact sl_lt (by omega)
          · rw [takeS hn, List.map_append]
            have h5 : upd H4 D (.lst (ts ++ [.ref D2])) D2 = some (.lst ((n.1.map fun t => t * (BB / n.2)).map V.int)) := by rw [upd_ne nD2.symm]; exact h4
            exact ((tt.same s4).up (s4 _ _ h3)).snoc h5
      · rintro H3 ⟨s3, ts, h3, tt⟩
        rw [hvl, List.take_length] at tt
        refine ⟨_, rfl, by show 2 ≤ sizeLine; decide, fun p hp => ?_⟩
        have sp : Same H3 (upd H3 p (.tup [.ref D, .int BB])) := same_upd hp
        refine k p D ts _ (s3.trans sp) ?_ hD (sp _ _ h3) ?_
        · rw [hBB]
          exact SqT.of upd_same
        · unfold levT
          rw [hBB]
          exact tt.same sp
end
end K09

/-! Sums of turns. -/
namespace K09
open PySem PySem.Spec PyProof.Rows L2
theorem addN_len (e p : Int) (tops tot : List Int) : ∀ k, (addN e p tops tot k).length = tot.length
  | 0 => rfl
  | k + 1 => by
    show (List.set _ _ _).length = tot.length
    rw [List.length_set, addN_len e p tops tot k]
theorem tsGo_len (r : List Int) (e sg : Int) (label : List Int) (items : List (List Int)) : ∀ i, (tsGo r e sg label items i).length = e.toNat
  | 0 => by simp [tsGo]
  | i + 1 => by
    show (addN _ _ _ _ _).length = _
    rw [addN_len, tsGo_len r e sg label items i]
theorem pair_bd (r : List Int) {e : Int} (he : 0 < e) (x q : List Int) : 0 ≤ pairL r e x q ∧ pairL r e x q < e := ⟨Int.emod_nonneg _ (by omega), Int.emod_lt_of_pos _ he⟩
theorem er_poly : ∀ e ∈ ER, 2 ≤ (polyL e).length ∧ (polyL e).length ≤ e.toNat ∧ ∀ d ∈ polyL e, -1000 ≤ d ∧ d ≤ 1000 := by decide +kernel
theorem rr_pl0 : ∀ r ∈ RR, (placesL r).length ≤ 16 := by decide +kernel
section
variable {P : Program} {w : World} {K : PySem.W.Frag} {mg : Str → Option Value} {base : Heap} {f f1 f2 f3 f4 f5 C fI fM : Addr} {fd fd1 fd2 fd3 fd4 fd5 fdM : FuncData}
def spTS (K : PySem.W.Frag) (C : Addr) : Sp := fun vs H Q _ => ∃ (p ti tp : Addr) (u : V) (its : List V) (r x : List Int) (tss : List (List Int)) (sg : Int), vs = [.ref p, .ref ti, .ref tp, u, .int sg] ∧ -1 ≤ sg ∧ sg ≤ 1 ∧ FloorAt K C H p r ∧ SqL K H ti its ∧ TopsAt H its tss ∧ PlL K H tp (placesL r) ∧ TupI K H u x ∧ x ∈ placesL r ∧ r ∈ RR ∧ tss.length = (placesL r).length ∧ (∀ ts ∈ tss, ts.length ≤ 1000) ∧
  ∀ t H', Same H H' → H t = none → H' t = some (.tup ((tsL r sg x tss).map V.int)) → Q (.ref t) H'
abbrev tsN : List Str := ["floor", "items", "places", "label", "sign", "total", "tops", "place", "power", "k", "top"]
theorem scTS : FnScope tsN ["floor", "items", "places", "label", "sign"] (defScope sTSum) := ⟨rfl, rfl, rfl, by decide +kernel, rfl, by decide +kernel, by decide +kernel⟩
theorem ok_tsum (F : FnP K "turned_sum" sTSum f fd) (B : Bl mg) (T : FlT K mg C fI fM) (FM : FunD K "pairing_of" "Floor.pairing_of" (defArgs sFPair) (defBody sFPair) (defScope sFPair) [] [] fM fdM) (GM : FnOk P w K mg base CX0 2 fM fdM ["self", "place", "label"] (spFPair K C))
    (F1 : FnP K "reduced" sRed f1 fd1) (g1 : mg "reduced" = some (.ref f1)) (G1 : FnOk P w K mg base CX0 2 f1 fd1 ["items", "polynomial"] (spRed K)) : FnOk P w K mg base CX0 3 f fd ["floor", "items", "places", "label", "sign"] (spTS K C) := by
  have bM : Binds K fdM ["self", "place", "label"] [] := FM.bindsN fun _ _ _ _ _ _ us hl => match us, hl with | [_, _, _], _ => rfl
  have b1 : Binds K fd1 ["items", "polynomial"] [] := F1.bindsN fun _ _ _ _ _ _ us hl => match us, hl with | [_, _], _ => rfl
  refine F.ok scTS (fun vs H Q E h => ?_) (fun cdv A outer s H vs Q E hr h => ?_)
  · obtain ⟨p, ti, tp, u, its, r, x, tss, sg, rfl, _⟩ := h
    rfl
  · obtain ⟨p, ti, tp, u, its, r, x, tss, sg, rfl, sg1, sg2, hF, hti, tt, hpl, ⟨c, rfl, hc⟩, hx, h14, hlen, few, k⟩ := h
    refine ⟨_, PSs.nox (pss_cons (ps_set (i := 5) scTS.nd rfl (Or.inl rfl) (pe_op op_rep (pe_lst (pa_cons pe_int pa_nil)) (pe_fld (pv 0) rfl)))
      (pss_cons (ps_for PassesOwn.never rfl (RZ.pi_zipA rfl (B "zip" (by decide +kernel)) (pa_cons (pv 1) (pa_cons (pv 2) pa_nil))) (pg_tup rfl (pgs_cons (pg_name (i := 6) scTS.nd rfl (Or.inl rfl)) (pgs_cons (pg_name (i := 7) scTS.nd rfl (Or.inl rfl)) pgs_nil)))
        (pss_cons (ps_set (i := 8) scTS.nd rfl (Or.inl rfl) (pe_op op_mul (pv 4) (pe_meth (pv 0) T.cl T.mt GM hr bM .nil pass0 (pa_cons (pv 7) (pa_cons (pv 3) pa_nil)))))
        (pss_one (ps_for PassesOwn.never rfl (pi_enum (by rfl) (B "enumerate" (by decide +kernel)) (pa_cons (pv 6) pa_nil)) (pg_tup rfl (pgs_cons (pg_name (i := 9) scTS.nd rfl (Or.inl rfl)) (pgs_cons (pg_name (i := 10) scTS.nd rfl (Or.inl rfl)) pgs_nil)))
          (pss_one (ps_augS (pv 5) (pe_op op_mod (pe_op op_add (pv 8) (pv 9)) (pe_fld (pv 0) rfl)) get_list (pv 10) ip_add set_list))))))
      (pss_one (ps_ret (pe_call G1 hr rfl g1 F1.kp b1 .nil pass0 (pa_cons (pv 5) (pa_cons (pe_fld (pv 0) rfl) pa_nil))))))), ?_⟩
    have eb := er_bd _ (er_in r h14)
    have ep := er_poly _ (er_in r h14)
    obtain ⟨dx, ar, po, pl, h1, h2, h3, h4⟩ := id hF
    obtain ⟨kp, hk1, hk2, hk3⟩ := hpl
    refine ⟨by show 1 ≤ sizeLine; decide, fun z hz => ?_⟩
    have sz : Same H (upd H z (.lst [.int 0])) := same_upd hz
    refine ⟨_, rfl, p, C, dx, _, _, rfl, sz _ _ h1, T.cl, T.aO, g_order, z, _, _, rfl, rfl, upd_same, by omega, by omega, sl_1000 (by simp; omega), fun D hD => ?_⟩
    rw [rep_flat]
    have nD : H D = none := sz.free hD
    have s1 : Same H (upd (upd H z (.lst [.int 0])) D (.lst (List.replicate (ordL r).toNat (V.int 0)))) := same_new sz hD
    have hkl : (rf kp).length = (placesL r).length := by rw [← hk2, List.length_map, List.length_map]
    have hil : its.length = (rf kp).length := by rw [tt.1, hlen, hkl]
    refine ⟨_, rfl, _, rfl, ti, tp, its, rf kp, rfl, .inl ⟨s1.seq hti, SqL.of (s1 _ _ hk1), ?_⟩⟩
    refine RZ.for_zipL (K := K) (a := ti) (b := tp) (xs := its) (ys := rf kp) hil (fun i σ H2 => ∃ y6 y7 y8 y9 y10, σ = [some (.ref p), some (.ref ti), some (.ref tp), some (.ref c), some (.int sg), some (.ref D), y6, y7, y8, y9, y10] ∧ Same H H2 ∧ H2 D = some (.lst ((tsGo r (ordL r) sg x tss i).map V.int))) ⟨none, none, none, none, none, rfl, s1, ?_⟩ (fun i σ H2 ⟨_, _, _, _, _, _, s2, _⟩ => ⟨s2.seq hti, SqL.of (s2 _ _ hk1)⟩) ?_ ?_
    · rw [upd_same]
      simp [tsGo]
    · rintro i y1 y2 Tt σ H2 e1 e2 ⟨y6, y7, y8, y9, y10, rfl, s2, h2'⟩ hT
      have il : i < tss.length := by rw [← tt.1]; exact ltL e1
      have ets := List.getElem?_eq_getElem il
      generalize tss[i] = ts at ets
      obtain ⟨tA, rfl, htA⟩ := tt.2 i y1 ts e1 ets
      obtain ⟨q, rfl, hq⟩ := getR e2
      have hqm := List.mem_of_getElem? hq
      have hq2 : (placesL r)[i]? = some q.2 := by rw [← hk2, List.getElem?_map, hq]; rfl
      have hqp : q.2 ∈ placesL r := List.mem_of_getElem? hq2
      have htm : ts ∈ tss := List.mem_of_getElem? ets
      have bd := pair_bd r (e := ordL r) (by omega) q.2 x
      have s3 : Same H (upd H2 Tt (.tup [.ref tA, .ref q.1])) := same_new s2 hT
      have h3' : upd H2 Tt (.tup [.ref tA, .ref q.1]) D = some (.lst ((tsGo r (ordL r) sg x tss i).map V.int)) := by rw [upd_ne (ne_of_none h2' hT)]; exact h2'
      refine ⟨Tt, _, rfl, SqT.of upd_same, rfl, _, _, rfl, _, _, rfl, rfl, ?_⟩
      refine ⟨_, rfl, _, rfl, p, dx, _, rfl, s3 _ _ h1, g_no, _, rfl, _, rfl, p, _, _, r, q.2, x, rfl, s3.floor hF, ⟨q.1, rfl, s3.tup (hk3 q hqm)⟩, ⟨c, rfl, s3.tup hc⟩, h14, hqp, hx, _, _, rfl, rfl, Or.inl ⟨by omega, by omega⟩, ?_⟩
      generalize hH3 : upd H2 Tt (.tup [.ref tA, .ref q.1]) = H3 at s3 h3'
      refine ⟨_, rfl, tA, ts.map V.int, rfl, SqL.of (s3 _ _ htA), ?_⟩
      generalize hPP : sg * pairL r (ordL r) q.2 x = PP
      have gl := tsGo_len r (ordL r) sg x tss i
      refine for_it (walk_enum (K := K) (a := tA) (xs := ts.map V.int)) (fun j σ H4 => ∃ y9 y10, σ = [some (.ref p), some (.ref ti), some (.ref tp), some (.ref c), some (.int sg), some (.ref D), some (.ref tA), some (.ref q.1), some (.int PP), y9, y10] ∧ Same H H4 ∧ H4 D = some (.lst ((addN (ordL r) PP ts (tsGo r (ordL r) sg x tss i) j).map V.int))) ⟨y9, y10, by rw [← hPP]; rfl, s3, h3'⟩ (fun j σ H4 _ ⟨_, _, _, s4, _⟩ => SqL.of (s4 _ _ htA)) ?_ ?_
      · rintro j v σ H4 H5 hj ⟨y9', y10', rfl, s4, h4'⟩ ⟨T5, c5, y5, rfl, hT5, rfl, ec, ey⟩
        obtain ⟨tv, rfl, htv⟩ := getI ey
        obtain rfl := Option.some.inj ec
        have s5 : Same H (upd H4 T5 (.tup [.int (j : Int), .int tv])) := same_new s4 hT5
        have h5 : upd H4 T5 (.tup [.int (j : Int), .int tv]) D = some (.lst ((addN (ordL r) PP ts (tsGo r (ordL r) sg x tss i) j).map V.int)) := by rw [upd_ne (ne_of_none h4' hT5)]; exact h4'
        have al := addN_len (ordL r) PP ts (tsGo r (ordL r) sg x tss i) j
        have m0 := Int.emod_nonneg (PP + (j : Int)) (show ordL r ≠ 0 by omega)
        have m1 := Int.emod_lt_of_pos (PP + (j : Int)) (show 0 < ordL r by omega)
        obtain ⟨n, hn⟩ := Int.eq_ofNat_of_zero_le m0
        refine ⟨T5, _, rfl, SqT.of upd_same, rfl, _, _, rfl, _, _, rfl, rfl, ?_⟩
        refine ⟨_, rfl, _, rfl, _, rfl, _, _, rfl, rfl, _, rfl, p, C, dx, _, _, rfl, s5 _ _ h1, T.cl, T.aO, g_order, _, _, rfl, rfl, by omega, ?_⟩
        refine ⟨D, _, n, _, rfl, congrArg V.int hn, SqL.of h5, getD_of (by rw [al]; omega), _, rfl, _, _, rfl, rfl, D, _, _, n, rfl, rfl, h5, ?_, some (.int (j : Int)), some (.int tv), rfl, same_at s5 nD, ?_⟩
        · rw [hn, List.length_map, al]
          exact ixN_nat (by omega)
        · rw [upd_same]
          show _ = some (HO.lst ((stepT (ordL r) (addN (ordL r) PP ts (tsGo r (ordL r) sg x tss i) j) (PP + (j : Int)) (ts.getD j 0)).map V.int))
          have e5 : ts.getD j 0 = tv := by rw [List.getD_eq_getElem?_getD, htv]; rfl
          unfold stepT
          rw [e5, hn, Int.toNat_natCast, List.map_set]
      · rintro σ H4 ⟨y9', y10', rfl, s4, h4'⟩
        refine ⟨_, _, _, _, _, rfl, s4, ?_⟩
        rw [h4', List.length_map]
        have e3 : (placesL r).getD i [] = q.2 := by rw [List.getD_eq_getElem?_getD, hq2]; rfl
        have e4 : tss.getD i [] = ts := by rw [List.getD_eq_getElem?_getD, ets]; rfl
        show _ = some (HO.lst ((addN (ordL r) (sg * pairL r (ordL r) ((placesL r).getD i []) x) (tss.getD i []) (tsGo r (ordL r) sg x tss i) (tss.getD i []).length).map V.int))
        rw [e3, e4, hPP]
    · rintro σ H2 ⟨y6, y7, y8, y9, y10, rfl, s2, h2'⟩
      have ts := tsGo_len r (ordL r) sg x tss its.length
      have etl : its.length = tss.length := tt.1
      refine ⟨_, rfl, _, rfl, p, C, dx, _, _, rfl, s2 _ _ h1, T.cl, T.aP, g_poly, D, po, _, _, rfl, SqL.of h2', s2.tup h3, ep.1, by omega, by omega, ep.2.2, fun t H3 s3 nt h4 => ?_⟩
      refine k t H3 (s2.trans s3) (s2.free nt) ?_
      rw [h4, etl]
      rfl
end
end K09

namespace K09
open PySem PySem.Spec PyProof.Rows L2
/-- numbers of a row whose least common bottom stays small -/
theorem tsL_len {r : List Int} (h : r ∈ RR) (sg : Int) (x : List Int) (tss : List (List Int)) : (tsL r sg x tss).length ≤ 1000 := by
  have ep := er_poly _ (er_in r h)
  have eb := er_bd _ (er_in r h)
  unfold tsL redL
  have := divL_len (xs := tsGo r (ordL r) sg x tss tss.length) (dv := polyL (ordL r)) (by omega) (by rw [tsGo_len]; exact ep.2.1)
  rw [List.length_append, List.length_replicate]
  omega
section
variable {P : Program} {w : World} {K : PySem.W.Frag} {mg : Str → Option Value} {base : Heap} {f f1 f2 f3 f4 f5 C fI fM : Addr} {fd fd1 fd2 fd3 fd4 fd5 fdM : FuncData}
def spVO (K : PySem.W.Frag) (C : Addr) : Sp := fun vs H Q _ => ∃ (p : Addr) (v : V) (r : List Int) (ns : List Num), vs = [.ref p, v] ∧ FloorAt K C H p r ∧ RowAt K H v ns ∧ r ∈ RR ∧ RowOk r ns ∧ ∀ v' H', Same H H' → RowAt K H' v' (voL r ns) → Q v' H'
abbrev voN : List Str := ["floor", "row", "items", "bottom", "sums", "label", "tops"]
theorem scVO : FnScope voN ["floor", "row"] (defScope sVOf) := ⟨rfl, rfl, rfl, by decide +kernel, rfl, by decide +kernel, by decide +kernel⟩
theorem ok_vof (F : FnP K "voices_of" sVOf f fd) (B : Bl mg) (T : FlT K mg C fI fM)
    (F1 : FnP K "levelled" sLev f1 fd1) (g1 : mg "levelled" = some (.ref f1)) (G1 : FnOk P w K mg base CX0 1 f1 fd1 ["numbers"] (spLev K))
    (F2 : FnP K "turned_sum" sTSum f2 fd2) (g2 : mg "turned_sum" = some (.ref f2)) (G2 : FnOk P w K mg base CX0 3 f2 fd2 ["floor", "items", "places", "label", "sign"] (spTS K C))
    (F3 : FnP K "lowered" sLow f3 fd3) (g3 : mg "lowered" = some (.ref f3)) (G3 : FnOk P w K mg base CX0 1 f3 fd3 ["tops", "bottom"] (spLow K)) :
    FnOk P w K mg base CX0 4 f fd ["floor", "row"] (spVO K C) := by
  have b1 : Binds K fd1 ["numbers"] [] := F1.bindsN fun _ _ _ _ _ _ us hl => match us, hl with | [_], _ => rfl
  have b2 : Binds K fd2 ["floor", "items", "places", "label", "sign"] [] := F2.bindsN fun _ _ _ _ _ _ us hl => match us, hl with | [_, _, _, _, _], _ => rfl
  have b3 : Binds K fd3 ["tops", "bottom"] [] := F3.bindsN fun _ _ _ _ _ _ us hl => match us, hl with | [_, _], _ => rfl
  refine F.ok scVO (fun vs H Q E h => ?_) (fun cdv A outer s H vs Q E hr h => ?_)
  · obtain ⟨p, v, r, ns, rfl, _⟩ := h
    rfl
  · obtain ⟨p, v, r, ns, rfl, hF, hR, h14, ro, k⟩ := h
    refine ⟨_, PSs.nox (pss_cons (ps_asg (pe_call G1 (hr.mono (by decide)) rfl g1 F1.kp b1 .nil pass0 (pa_cons (pv 1) pa_nil)) (pg_tup rfl (pgs_cons (pg_name (i := 2) scVO.nd rfl (Or.inr rfl)) (pgs_cons (pg_name (i := 3) scVO.nd rfl (Or.inr rfl)) pgs_nil))))
      (pss_cons (ps_setLc (i := 4) (own := [("label", 5)]) (g := gName 5) (tt := tYes) (te := tCall (spTS K C) [] E0 (tCons (tVar 0) (tCons (tVar 2) (tCons (tFld K (tVar 0) "places") (tCons (tVar 5) (tCons (tC (.int 1)) tNil)))))) rfl scVO.nd rfl rfl (sw_true rfl rfl rfl (by decide +kernel)) (pi_list (pe_fld (pv 0) rfl)) (blkOk_by (own := [("label", 5)]) (N := voN) (sc := defScope sVOf) (by decide +kernel))
          (fun _ _ _ _ _ => pg_name (i := 5) scVO.nd rfl (Or.inl rfl)) (fun _ _ _ _ _ => pts_nil)
          (fun _ _ _ _ _ => pe_call G2 hr rfl g2 F2.kp b2 .nil pass0 (pa_cons (pv 0) (pa_cons (pv 2) (pa_cons (pe_fld (pv 0) rfl) (pa_cons (pv 5) (pa_cons pe_int pa_nil)))))))
      (pss_one (ps_ret (pe_callTy call_tuple_of (by rfl) (B "tuple" (by decide +kernel)) (by decide +kernel) (pa_cons
        (pe_lc (own := [("tops", 6)]) (g := gName 6) (tt := tYes) (te := tCall (spLow K) [] E0 (tCons (tVar 6) (tCons (tVar 3) tNil))) rfl scVO.nd (pi_list (pv 4)) (blkOk_by (own := [("tops", 6)]) (N := voN) (sc := defScope sVOf) (by decide +kernel))
          (fun _ _ _ _ _ => pg_name (i := 6) scVO.nd rfl (Or.inl rfl)) (fun _ _ _ _ _ => pts_nil)
          (fun _ _ _ _ _ => pe_call G3 (hr.mono (by decide)) rfl g3 F3.kp b3 .nil pass0 (pa_cons (pv 6) (pa_cons (pv 3) pa_nil)))) pa_nil)))))), ?_⟩
    obtain ⟨dx, ar, po, pl, h1, h2, h3, h4⟩ := id hF
    obtain ⟨kp, hk1, hk2, hk3⟩ := id h4
    have eb := er_bd _ (er_in r h14)
    have hr16 := rr_pl0 r h14
    have bB := ro.lev ns.length (Nat.le_refl _)
    rw [List.take_length] at bB
    have hns := ro.len
    refine ⟨_, rfl, v, ns, rfl, hR, by omega, ro.item, ro.lev, fun pt t ts H1 s1 hpt nt ht tt => ?_⟩
    refine ⟨pt, _, rfl, hpt, rfl, _, _, rfl, _, _, rfl, rfl, ?_⟩
    have s1f := s1 _ _ h1
    refine ⟨_, rfl, p, C, dx, _, _, rfl, s1f, T.cl, T.aL, g_places, pl, rfl, ⟨_, SqL.of (s1 _ _ hk1)⟩, fun D hD => ?_⟩
    have hkl : (rf kp).length = (placesL r).length := by rw [← hk2, List.length_map, List.length_map]
    have sD : Same H1 (upd H1 D (.lst [])) := same_upd hD
    have few : ∀ ts ∈ levT ns, ts.length ≤ 1000 := fun ts hts => by
      unfold levT at hts
      obtain ⟨n, hn, rfl⟩ := List.mem_map.mp hts
      rw [List.length_map]
      exact (ro.item n hn).2.2
    have lvl : (levT ns).length = (placesL r).length := by
      unfold levT
      rw [List.length_map, ro.len]
    refine lc_list (K := K) (a := pl) (xs := rf kp) (fun i H2 => Same H1 H2 ∧ ∃ ks, H2 D = some (.lst (rf ks)) ∧ TL K H2 ks ∧ ks.map (·.2) = ((placesL r).take i).map fun l => tsL r 1 l (levT ns)) ⟨sD, [], upd_same, tl_nil, rfl⟩ (fun i H2 _ ⟨s2, _⟩ => SqL.of (s2 _ _ (s1 _ _ hk1))) ?_ ?_
    · rintro i y H2 hi ⟨s2, ks, hD2, tk, ek⟩
      obtain ⟨q, rfl, hq⟩ := getR hi
      have hqm := List.mem_of_getElem? hq
      have hq2 : (placesL r)[i]? = some q.2 := by rw [← hk2, List.getElem?_map, hq]; rfl
      have hqp : q.2 ∈ placesL r := List.mem_of_getElem? hq2
      have s12 := s1.trans s2
      refine ⟨rfl, _, rfl, _, rfl, _, rfl, p, C, dx, _, _, rfl, s12 _ _ h1, T.cl, T.aL, g_places, _, rfl, p, t, pl, .ref q.1, ts, r, q.2, levT ns, 1, rfl, by decide, by decide, s12.floor hF, SqL.of (s2 _ _ ht), tt.same s2, s12.pll h4, ⟨q.1, rfl, s12.tup (hk3 q hqm)⟩, hqp, h14, lvl, few, fun t2 H3 s3 nt2 ht2 => ?_⟩
      have kl : ks.length = ((placesL r).take i).length := by
        have := congrArg List.length ek
        rw [List.length_map, List.length_map] at this
        exact this
      refine ⟨_, s3 _ _ hD2, sl_lt (by rw [List.length_map, kl, List.length_take]; omega), same_at (s2.trans s3) hD, ks ++ [(t2, tsL r 1 q.2 (levT ns))], ?_, ?_, ?_⟩
      · rw [upd_same, rf_snoc]
      · exact tl_at (tl_snoc (s3.tl tk) (SqT.of ht2)) (s3 _ _ hD2)
      · rw [List.map_append, ek, takeS hq2, List.map_append]
        rfl
    · rintro H2 ⟨s2, ks, hD2, tk, ek⟩
      rw [hkl, List.take_length] at ek
      have s12 := s1.trans s2
      refine ⟨_, rfl, D, rfl, ⟨_, SqL.of hD2⟩, fun D3 hD3 => ?_⟩
      have kl : ks.length = (placesL r).length := by
        have := congrArg List.length ek
        rw [List.length_map, List.length_map] at this
        exact this
      refine lc_list (K := K) (a := D) (xs := rf ks) (fun i H3 => Same H2 H3 ∧ ∃ us, H3 D3 = some (.lst us) ∧ Nums K H3 us ((voL r ns).take i)) ⟨same_upd hD3, [], upd_same, by rw [List.take_zero]; exact nums_nil⟩ (fun i H3 _ ⟨s3, _⟩ => SqL.of (s3 _ _ hD2)) ?_ ?_
      · rintro i y H3 hi ⟨s3, us, h3', tn⟩
        obtain ⟨q, rfl, hq⟩ := getR hi
        have hqm := List.mem_of_getElem? hq
        have eq2 : ∃ l, (placesL r)[i]? = some l ∧ q.2 = tsL r 1 l (levT ns) := by
          have e : (ks.map (·.2))[i]? = some q.2 := by rw [List.getElem?_map, hq]; rfl
          rw [ek, List.getElem?_map] at e
          cases hl : (placesL r)[i]? with
          | none =>
            rw [hl] at e
            cases e
          | some l =>
            rw [hl] at e
            exact ⟨l, rfl, (Option.some.inj e).symm⟩
        obtain ⟨l, hl, el⟩ := eq2
        refine ⟨rfl, _, rfl, _, rfl, q.1, q.2, levB ns, rfl, .inr (s3.tup (tk q hqm)), by omega, by omega, by rw [el]; exact tsL_len h14 _ _ _, fun v2 H4 s4 hv2 => ?_⟩
        have ev : (voL r ns)[i]? = some (lowL q.2 (levB ns)) := by
          unfold voL
          rw [List.getElem?_map, hl, el]
          rfl
        have ul := tn.1
        rw [List.length_take] at ul
        refine ⟨us, s4 _ _ h3', sl_lt (by have := ltL hq; omega), same_at (s3.trans s4) hD3, us ++ [v2], upd_same, ?_⟩
        rw [takeS ev]
        have tn4 := s4.nums tn
        have num_up : ∀ {v : V} {n : Num}, NumAt K H4 v n → NumAt K (upd H4 D3 (.lst (us ++ [v2]))) v n := fun ⟨p', t', e', q1, q2⟩ => ⟨p', t', e', sqt_at q1 (s4 _ _ h3'), sqt_at q2 (s4 _ _ h3')⟩
        exact Nums.snoc ⟨tn4.1, fun i v n e1 e2 => num_up (tn4.2 i v n e1 e2)⟩ (num_up hv2)
      · rintro H3 ⟨s3, us, h3', tn⟩
        have vl : (voL r ns).length = (placesL r).length := by
          unfold voL
          rw [List.length_map]
        rw [List.length_map, kl, ← vl, List.take_length] at tn
        refine ⟨D3, us, rfl, .inl ⟨SqL.of h3', fun p2 hp2 => ?_⟩⟩
        have sp : Same H3 (upd H3 p2 (.tup us)) := same_upd hp2
        exact k _ _ (((s12.trans s3)).trans sp) ⟨p2, us, rfl, SqT.of upd_same, sp.nums tn⟩
end
end K09

/-! Numbers are numbers, rows are rows (those that are). -/
namespace K09
open PySem PySem.Spec PyProof.Rows L2
theorem hu65 {k : Nat} {A : Around} (hr : Room k A) : A.units + 64 < cLine := hr.units
theorem dp_ints {K : PySem.W.Frag} {H : Hp} : ∀ ns : List Int, DpAll K H (ns.map V.int) (ns.map PyData.int)
  | [] => .nil
  | n :: r => .cons (.int n) (dp_ints r)
def numD (n : Num) : PyData := .tuple [.tuple (n.1.map PyData.int), .int n.2]
theorem num_dp {K : PySem.W.Frag} {H : Hp} {v : V} {n : Num} (h : NumAt K H v n) : Dp K H v (numD n) := by
  obtain ⟨p, t, rfl, h1, h2⟩ := h
  exact .tup h1 (.cons (.tup h2 (dp_ints n.1)) (.cons (.int n.2) .nil))
theorem eqv_ints : ∀ a : List Int, PyData.eqvAll (a.map PyData.int) (a.map PyData.int) = true
  | [] => by simp [PyData.eqvAll]
  | x :: a => by simp [PyData.eqvAll, PyData.eqv, eqv_ints a]
theorem num_eqv (n : Num) : PyData.eqv (numD n) (numD n) = true := by
  unfold numD
  simp [PyData.eqv, PyData.eqvAll, eqv_ints]
theorem ints_lay : ∀ ns : List Int, PyData.canLayAll0 (ns.map PyData.int) = true
  | [] => rfl
  | n :: r => by simp [PyData.canLayAll0, PyData.canLay0, ints_lay r]
theorem ints_depth : ∀ ns : List Int, PyData.depthAll (ns.map PyData.int) ≤ 1
  | [] => by simp [PyData.depthAll]
  | n :: r => by
    have := ints_depth r
    simp only [List.map_cons, PyData.depthAll, PyData.depth]
    omega
theorem num_shaped (n : Num) : SeqAt.shaped (numD n) = true := by
  unfold SeqAt.shaped numD
  rw [Bool.and_eq_true]
  have h2 := ints_depth n.1
  refine ⟨by simp [PyData.canLay0, PyData.canLayAll0, ints_lay], decide_eq_true ?_⟩
  simp only [PyData.depth, PyData.depthAll]
  omega
/-- a number of the order, in lowest terms -/
theorem unitsL_len (e : Int) : (unitsL e).length ≤ e.toNat := by
  unfold unitsL
  exact Nat.le_trans (List.length_filter_le _ _) (Nat.le_of_eq (rgL_len _ _))
section
variable {P : Program} {w : World} {K : PySem.W.Frag} {mg : Str → Option Value} {base : Heap} {f f1 f2 f3 f4 f5 : Addr} {fd fd1 fd2 fd3 fd4 fd5 : FuncData}
def spOrd (b : V) : Sp := fun vs H Q _ => ∃ e : Int, vs = [.int e] ∧ 1 ≤ e ∧ e ≤ 60 ∧ Q b H
theorem scIsOrd : FnScope ["thing"] ["thing"] (defScope sIsOrd) := ⟨rfl, rfl, rfl, by decide +kernel, rfl, by decide +kernel, by decide +kernel⟩
theorem ok_isOrd (F : FnP K "is_order" sIsOrd f fd) (F1 : FnP K "is_integer" sIsInt f1 fd1) (g1 : mg "is_integer" = some (.ref f1)) (G1 : FnOk P w K mg base CX0 1 f1 fd1 ["thing"] spIsInt) (gO : ∃ t, mg "MOST_ORDER" = some (.int 60 t)) : FnOk P w K mg base CX0 2 f fd ["thing"] (spOrd (.bl true)) := by
  have b1 : Binds K fd1 ["thing"] [] := F1.bindsN fun _ _ _ _ _ _ us hl => match us, hl with | [_], _ => rfl
  obtain ⟨t1, e1⟩ := gO
  refine F.ok scIsOrd (fun vs H Q E h => ?_) (fun cdv A outer s H vs Q E hr h => ?_)
  · obtain ⟨e, rfl, _⟩ := h
    rfl
  · obtain ⟨e, rfl, h1, h2, k⟩ := h
    refine ⟨_, PSs.nox (pss_one (ps_ret (pe_and (pe_call G1 hr rfl g1 F1.kp b1 .nil pass0 (pa_cons (pv 0) pa_nil)) (pe_one (pe_chain op_le op_le pe_int (pv 0) (pe_glob (v := .int 60) rfl e1 ⟨_, rfl⟩)))))), ?_⟩
    have c1 : decide ((1 : Int) ≤ e) = true := decide_eq_true h1
    have c2 : decide (e ≤ 60) = true := decide_eq_true h2
    refine ⟨_, rfl, e, rfl, _, rfl, _, rfl, _, _, rfl, rfl, _, rfl, ?_⟩
    refine ite2 (fun _ => ?_) (fun z => absurd c1 z)
    refine ⟨_, _, rfl, rfl, ?_⟩
    show Q (.bl (decide (e ≤ 60))) H
    rw [c2]
    exact k
theorem scChkO : FnScope ["order"] ["order"] (defScope sChkO) := ⟨rfl, rfl, rfl, by decide +kernel, rfl, by decide +kernel, by decide +kernel⟩
theorem ok_chkO (F : FnP K "check_order" sChkO f fd) (F1 : FnP K "is_order" sIsOrd f1 fd1) (g1 : mg "is_order" = some (.ref f1)) (G1 : FnOk P w K mg base CX0 2 f1 fd1 ["thing"] (spOrd (.bl true))) : FnOk P w K mg base CX0 3 f fd ["order"] (spOrd .non) := by
  have b1 : Binds K fd1 ["thing"] [] := F1.bindsN fun _ _ _ _ _ _ us hl => match us, hl with | [_], _ => rfl
  refine F.ok scChkO (fun vs H Q E h => ?_) (fun cdv A outer s H vs Q E hr h => ?_)
  · obtain ⟨e, rfl, _⟩ := h
    rfl
  · obtain ⟨e, rfl, h1, h2, k⟩ := h
    refine ⟨_, PSs.nox (pss_one (ps_if (pt_not (pt_val (pe_call G1 hr rfl g1 F1.kp b1 .nil pass0 (pa_cons (pv 0) pa_nil)))) (pss_one ps_never) pss_nil)), ?_⟩
    exact ⟨_, rfl, e, rfl, h1, h2, _, rfl, iteF k⟩
def spIsNum (K : PySem.W.Frag) (b : V) : Sp := fun vs H Q _ => ∃ (e : Int) (v : V) (n : Num), vs = [.int e, v] ∧ 1 ≤ e ∧ e ≤ 60 ∧ NumAt K H v n ∧ NumOk e n ∧ ∀ H', Same H H' → Q b H'
theorem scIsNum : FnScope ["order", "thing", "tops", "bottom"] ["order", "thing"] (defScope sIsNum) := ⟨rfl, rfl, rfl, by decide +kernel, rfl, by decide +kernel, by decide +kernel⟩
theorem ok_isNum (F : FnP K "is_number" sIsNum f fd) (B : Bl mg) (F1 : FnP K "check_order" sChkO f1 fd1) (g1 : mg "check_order" = some (.ref f1)) (G1 : FnOk P w K mg base CX0 3 f1 fd1 ["order"] (spOrd .non))
    (F2 : FnP K "is_integers" sIsInts f2 fd2) (g2 : mg "is_integers" = some (.ref f2)) (G2 : FnOk P w K mg base CX0 2 f2 fd2 ["thing"] (spIsInts K)) (F3 : FnP K "is_integer" sIsInt f3 fd3) (g3 : mg "is_integer" = some (.ref f3)) (G3 : FnOk P w K mg base CX0 1 f3 fd3 ["thing"] spIsInt)
    (F4 : FnP K "units_of" sUnits f4 fd4) (g4 : mg "units_of" = some (.ref f4)) (G4 : FnOk P w K mg base CX0 1 f4 fd4 ["order"] spUnits) (F5 : FnP K "lowered" sLow f5 fd5) (g5 : mg "lowered" = some (.ref f5)) (G5 : FnOk P w K mg base CX0 1 f5 fd5 ["tops", "bottom"] (spLow K)) :
    FnOk P w K mg base CX0 4 f fd ["order", "thing"] (spIsNum K (.bl true)) := by
  have b1 : Binds K fd1 ["order"] [] := F1.bindsN fun _ _ _ _ _ _ us hl => match us, hl with | [_], _ => rfl
  have b2 : Binds K fd2 ["thing"] [] := F2.bindsN fun _ _ _ _ _ _ us hl => match us, hl with | [_], _ => rfl
  have b3 : Binds K fd3 ["thing"] [] := F3.bindsN fun _ _ _ _ _ _ us hl => match us, hl with | [_], _ => rfl
  have b4 : Binds K fd4 ["order"] [] := F4.bindsN fun _ _ _ _ _ _ us hl => match us, hl with | [_], _ => rfl
  have b5 : Binds K fd5 ["tops", "bottom"] [] := F5.bindsN fun _ _ _ _ _ _ us hl => match us, hl with | [_, _], _ => rfl
  refine F.ok scIsNum (fun vs H Q E h => ?_) (fun cdv A outer s H vs Q E hr h => ?_)
  · obtain ⟨e, v, n, rfl, _⟩ := h
    rfl
  · obtain ⟨e, v, n, rfl, h1, h2, hv, ok, k⟩ := h
    refine ⟨_, PSs.nox (pss_cons (ps_expr (pe_call G1 hr rfl g1 F1.kp b1 .nil pass0 (pa_cons (pv 0) pa_nil)))
      (pss_cons (ps_if (PW.pt (pw_or (pt_not (pt_val (pe_callB call_isi (by rfl) (B "isinstance" (by decide +kernel)) (by decide +kernel) (pa_cons (pv 1) (pa_cons (pe_bltn (v := .ty "tuple") rfl (B "tuple" (by decide +kernel)) (by decide +kernel) rfl) pa_nil))))) (pw_or1 (pt_cmpR op_ne (pe_callB call_len_seq (by rfl) (B "len" (by decide +kernel)) PySem.boot_len (pa_cons (pv 1) pa_nil)) pe_int (nomark _))))) (pss_one ps_never) pss_nil)
      (pss_cons (ps_asg (pv 1) (pg_tup rfl (pgs_cons (pg_name (i := 2) scIsNum.nd rfl (Or.inl rfl)) (pgs_cons (pg_name (i := 3) scIsNum.nd rfl (Or.inl rfl)) pgs_nil))))
      (pss_cons (ps_if (PW.pt (pw_or (pt_not (pt_val (pe_call G2 (hr.mono (by decide)) rfl g2 F2.kp b2 .nil pass0 (pa_cons (pv 2) pa_nil)))) (pw_or (pt_not (pt_val (pe_call G3 (hr.mono (by decide)) rfl g3 F3.kp b3 .nil pass0 (pa_cons (pv 3) pa_nil)))) (pw_or1 (pt_cmpR op_lt (pv 3) pe_int (nomark _)))))) (pss_one ps_never) pss_nil)
      (pss_one (ps_ret (pe_and (pe_cmpR op_eq (pe_callB call_len_seq (by rfl) (B "len" (by decide +kernel)) PySem.boot_len (pa_cons (pv 2) pa_nil)) (pe_callB call_len_seq (by rfl) (B "len" (by decide +kernel)) PySem.boot_len (pa_cons (pe_call G4 (hr.mono (by decide)) rfl g4 F4.kp b4 .nil pass0 (pa_cons (pv 0) pa_nil)) pa_nil)) (nomark _))
        (pe_one (pe_cmpR (op_eqD (hu65 hr)) (pe_call G5 (hr.mono (by decide)) rfl g5 F5.kp b5 .nil pass0 (pa_cons (pv 2) (pa_cons (pv 3) pa_nil))) (pv 1) (nomark _)))))))))), ?_⟩
    obtain ⟨p, t, rfl, hp, ht⟩ := id hv
    refine ⟨_, rfl, e, rfl, h1, h2, ?_⟩
    refine ⟨_, rfl, _, _, .type "tuple", _, true, rfl, .ty "tuple", tyT hp, kit_ty (by decide +kernel), _, rfl, ?_⟩
    refine iteF ?_
    refine ⟨_, rfl, p, _, rfl, .inr hp, rfl, _, rfl, ?_⟩
    refine iteF ?_
    refine ⟨_, rfl, p, _, rfl, hp, rfl, _, _, rfl, _, _, rfl, rfl, ?_⟩
    have ul := unitsL_len e
    have ol := ok.len
    refine ⟨_, rfl, _, n.1, rfl, ⟨t, rfl, ht⟩, by omega, fun H1 s1 => ⟨_, rfl, iteF ?_⟩⟩
    refine ⟨_, rfl, n.2, rfl, _, rfl, iteF ?_⟩
    refine ⟨_, rfl, _, _, rfl, rfl, _, rfl, ?_⟩
    have b0 := ok.pos
    have b2 := ok.big
    refine ite2 (fun c => absurd (of_decide_eq_true c) (by omega)) fun _ => ?_
    refine ⟨_, rfl, t, _, rfl, .inr (s1.tup ht), _, rfl, e, rfl, h1, h2, fun U H2 s2 nU hU => ?_⟩
    refine ⟨U, _, rfl, .inl (SqL.of hU), rfl, ?_⟩
    have c3 : decide (V.int (((n.1.map V.int).length : Nat) : Int) = V.int ((((unitsL e).map V.int).length : Nat) : Int)) = true := decide_eq_true (by rw [List.length_map, List.length_map, ol])
    refine ⟨_, rfl, ?_⟩
    refine ite2 (fun _ => ?_) (fun z => absurd c3 z)
    have s12 := s1.trans s2
    refine ⟨_, rfl, _, rfl, t, n.1, n.2, rfl, .inr (s12.tup ht), b0, by omega, by omega, fun v2 H3 s3 hv2 => ?_⟩
    rw [ok.low] at hv2
    refine ⟨_, rfl, numD n, numD n, num_dp hv2, num_dp ((s12.trans s3).num hv), num_shaped n, num_shaped n, ?_⟩
    rw [num_eqv]
    exact k H3 (s12.trans s3)
end
end K09

/-! is_row, check_row, voices. -/
namespace K09
open PySem PySem.Spec PyProof.Rows L2
theorem rr_szl : ∀ r ∈ RR, (((placesL r).length : Nat) : Int) = sizeL r := by decide +kernel
section
variable {P : Program} {w : World} {K : PySem.W.Frag} {mg : Str → Option Value} {base : Heap} {f f1 f2 f3 f4 f5 C fI fM : Addr} {fd fd1 fd2 fd3 fd4 fd5 fdI : FuncData}
def spSzOf (K : PySem.W.Frag) : Sp := fun vs H Q _ => ∃ (v : V) (r : List Int), vs = [v] ∧ TupI K H v r ∧ r ∈ RR ∧ ∀ H', Same H H' → Q (.int (sizeL r)) H'
theorem scSzOf : FnScope ["rings"] ["rings"] (defScope sSizeOf) := ⟨rfl, rfl, rfl, by decide +kernel, rfl, by decide +kernel, by decide +kernel⟩
theorem ok_szOf (F : FnP K "size_of" sSizeOf f fd) (F1 : FnP K "check_rings" sChkR f1 fd1) (g1 : mg "check_rings" = some (.ref f1)) (G1 : FnOk P w K mg base CX0 4 f1 fd1 ["rings"] (spNon K)) (F2 : FnP K "_size" sSize f2 fd2) (g2 : mg "_size" = some (.ref f2)) : FnOk P w K mg base CX0 5 f fd ["rings"] (spSzOf K) := by
  have G2 : FnOk P w K mg base CX0 1 f2 fd2 ["lengths"] (spSize' K) := ok_size F2
  have b1 : Binds K fd1 ["rings"] [] := F1.bindsN fun _ _ _ _ _ _ us hl => match us, hl with | [_], _ => rfl
  have b2 : Binds K fd2 ["lengths"] [] := F2.bindsN fun _ _ _ _ _ _ us hl => match us, hl with | [_], _ => rfl
  refine F.ok scSzOf (fun vs H Q E h => ?_) (fun cdv A outer s H vs Q E hr h => ?_)
  · obtain ⟨v, r, rfl, _⟩ := h
    rfl
  · obtain ⟨v, r, rfl, ⟨a, rfl, ha⟩, h14, k⟩ := h
    refine ⟨_, PSs.nox (pss_cons (ps_expr (pe_call G1 hr rfl g1 F1.kp b1 .nil pass0 (pa_cons (pv 0) pa_nil))) (pss_one (ps_ret (pe_call G2 (hr.mono (by decide)) rfl g2 F2.kp b2 .nil pass0 (pa_cons (pv 0) pa_nil))))), ?_⟩
    exact ⟨_, rfl, _, r, rfl, ⟨a, rfl, ha⟩, h14, fun H1 s1 => ⟨_, rfl, _, r, rfl, ⟨a, rfl, s1.tup ha⟩, h14, k H1 s1⟩⟩
def spRow (K : PySem.W.Frag) (b : V) : Sp := fun vs H Q _ => ∃ (v u : V) (r : List Int) (ns : List Num), vs = [v, u] ∧ TupI K H v r ∧ RowAt K H u ns ∧ r ∈ RR ∧ RowG r ns ∧ ∀ H', Same H H' → Q b H'
abbrev irN : List Str := ["rings", "thing", "size", "order", "item"]
theorem scIsRow : FnScope irN ["rings", "thing"] (defScope sIsRow) := ⟨rfl, rfl, rfl, by decide +kernel, rfl, by decide +kernel, by decide +kernel⟩
theorem ok_isRow (F : FnP K "is_row" sIsRow f fd) (B : Bl mg) (F1 : FnP K "size_of" sSizeOf f1 fd1) (g1 : mg "size_of" = some (.ref f1)) (G1 : FnOk P w K mg base CX0 5 f1 fd1 ["rings"] (spSzOf K)) (F2 : FnP K "order_of" sOrdOf f2 fd2) (g2 : mg "order_of" = some (.ref f2)) (G2 : FnOk P w K mg base CX0 5 f2 fd2 ["rings"] (spOrder K))
    (F3 : FnP K "is_number" sIsNum f3 fd3) (g3 : mg "is_number" = some (.ref f3)) (G3 : FnOk P w K mg base CX0 4 f3 fd3 ["order", "thing"] (spIsNum K (.bl true))) : FnOk P w K mg base CX0 6 f fd ["rings", "thing"] (spRow K (.bl true)) := by
  have b1 : Binds K fd1 ["rings"] [] := F1.bindsN fun _ _ _ _ _ _ us hl => match us, hl with | [_], _ => rfl
  have b2 : Binds K fd2 ["rings"] [] := F2.bindsN fun _ _ _ _ _ _ us hl => match us, hl with | [_], _ => rfl
  have b3 : Binds K fd3 ["order", "thing"] [] := F3.bindsN fun _ _ _ _ _ _ us hl => match us, hl with | [_, _], _ => rfl
  refine F.ok scIsRow (fun vs H Q E h => ?_) (fun cdv A outer s H vs Q E hr h => ?_)
  · obtain ⟨v, u, r, ns, rfl, _⟩ := h
    rfl
  · obtain ⟨v, u, r, ns, rfl, ⟨a, rfl, ha⟩, hR, h14, ro, k⟩ := h
    refine ⟨_, PSs.nox (pss_cons (ps_asg (pe_tup (pa_cons (pe_call G1 hr rfl g1 F1.kp b1 .nil pass0 (pa_cons (pv 0) pa_nil)) (pa_cons (pe_call G2 hr rfl g2 F2.kp b2 .nil pass0 (pa_cons (pv 0) pa_nil)) pa_nil))) (pg_tup rfl (pgs_cons (pg_name (i := 2) scIsRow.nd rfl (Or.inl rfl)) (pgs_cons (pg_name (i := 3) scIsRow.nd rfl (Or.inr rfl)) pgs_nil))))
      (pss_cons (ps_if (PW.pt (pw_or (pt_not (pt_val (pe_callB call_isi (by rfl) (B "isinstance" (by decide +kernel)) (by decide +kernel) (pa_cons (pv 1) (pa_cons (pe_bltn (v := .ty "tuple") rfl (B "tuple" (by decide +kernel)) (by decide +kernel) rfl) pa_nil))))) (pw_or1 (pt_cmpR op_ne (pe_callB call_len_seq (by rfl) (B "len" (by decide +kernel)) PySem.boot_len (pa_cons (pv 1) pa_nil)) (pv 2) (nomark _))))) (pss_one ps_never) pss_nil)
      (pss_one (ps_ret (pe_callB (cr_all rfl) (by rfl) (B "all" (by decide +kernel)) (by decide +kernel) (pa_cons
        (pe_lc (own := [("item", 4)]) (g := gName 4) (tt := tYes) (te := tCall (spIsNum K (.bl true)) [] E0 (tCons (tVar 3) (tCons (tVar 4) tNil))) rfl scIsRow.nd (pi_tup (pv 1)) (blkOk_by (own := [("item", 4)]) (N := irN) (sc := defScope sIsRow) (by decide +kernel))
          (fun _ _ _ _ _ => pg_name (i := 4) scIsRow.nd rfl (Or.inl rfl)) (fun _ _ _ _ _ => pts_nil) (fun _ _ _ _ _ => pe_call G3 (hr.mono (by decide)) rfl g3 F3.kp b3 .nil pass0 (pa_cons (pv 3) (pa_cons (pv 4) pa_nil)))) pa_nil)))))), ?_⟩
    have eb := er_bd _ (er_in r h14)
    have h16 := rr_pl0 r h14
    obtain ⟨p, us, rfl, hp, hN⟩ := id hR
    refine ⟨_, rfl, _, r, rfl, ⟨a, rfl, ha⟩, h14, fun H1 s1 => ?_⟩
    refine ⟨_, rfl, _, r, rfl, ⟨a, rfl, s1.tup ha⟩, h14, fun H2 s2 => ?_⟩
    refine ⟨by show 2 ≤ sizeLine; decide, fun t0 ht0 => ?_⟩
    have s3 := same_new (o := .tup [.int (sizeL r), .int (ordL r)]) (s1.trans s2) ht0
    refine ⟨t0, _, rfl, SqT.of upd_same, rfl, _, _, rfl, _, _, rfl, rfl, ?_⟩
    generalize upd H2 t0 (.tup [.int (sizeL r), .int (ordL r)]) = H3 at s3
    refine ⟨_, rfl, _, _, .type "tuple", _, true, rfl, .ty "tuple", tyT (s3.tup hp), kit_ty (by decide +kernel), _, rfl, ?_⟩
    refine iteF ?_
    refine ⟨_, rfl, p, _, rfl, .inr (s3.tup hp), _, rfl, rfl, _, rfl, ?_⟩
    have el : ((us.length : Nat) : Int) = sizeL r := by rw [hN.1, ro.ok.len, rr_szl r h14]
    rw [el]
    refine ite2 (fun c => absurd c (by simp)) fun _ => ?_
    refine ⟨_, rfl, p, rfl, ⟨_, s3.tup hp⟩, fun D hD => ?_⟩
    refine lc_tup (K := K) (a := p) (xs := us) (fun i H4 => Same H3 H4 ∧ H4 D = some (.lst ((List.replicate i true).map V.bl))) ⟨same_upd hD, upd_same⟩ (fun i H4 _ ⟨s4, _⟩ => s4.tup (s3.tup hp)) ?_ ?_
    · rintro i y H4 hi ⟨s4, h4⟩
      obtain ⟨n, hn, hnum⟩ := hN.get hi
      have nm := List.mem_of_getElem? hn
      have il := ltL hn
      have lns := ro.ok.len
      refine ⟨rfl, _, rfl, _, rfl, ordL r, _, n, rfl, by omega, by omega, (s3.trans s4).num hnum, ro.num n nm, fun H5 s5 => ?_⟩
      refine ⟨_, s5 _ _ h4, sl_lt (by rw [List.length_map, List.length_replicate]; omega), same_at (s4.trans s5) hD, ?_⟩
      rw [upd_same, List.replicate_succ', List.map_append]
      rfl
    · rintro H4 ⟨s4, h4⟩
      refine ⟨D, _, rfl, SqL.of h4, ?_⟩
      rw [all_true]
      exact k H4 (s3.trans s4)
theorem scChkRow : FnScope ["rings", "row"] ["rings", "row"] (defScope sChkRow) := ⟨rfl, rfl, rfl, by decide +kernel, rfl, by decide +kernel, by decide +kernel⟩
theorem ok_chkRow (F : FnP K "check_row" sChkRow f fd) (F1 : FnP K "is_row" sIsRow f1 fd1) (g1 : mg "is_row" = some (.ref f1)) (G1 : FnOk P w K mg base CX0 6 f1 fd1 ["rings", "thing"] (spRow K (.bl true))) : FnOk P w K mg base CX0 7 f fd ["rings", "row"] (spRow K .non) := by
  have b1 : Binds K fd1 ["rings", "thing"] [] := F1.bindsN fun _ _ _ _ _ _ us hl => match us, hl with | [_, _], _ => rfl
  refine F.ok scChkRow (fun vs H Q E h => ?_) (fun cdv A outer s H vs Q E hr h => ?_)
  · obtain ⟨v, u, r, ns, rfl, _⟩ := h
    rfl
  · obtain ⟨v, u, r, ns, rfl, hv, hR, h14, ro, k⟩ := h
    refine ⟨_, PSs.nox (pss_one (ps_if (pt_not (pt_val (pe_call G1 hr rfl g1 F1.kp b1 .nil pass0 (pa_cons (pv 0) (pa_cons (pv 1) pa_nil))))) (pss_one ps_never) pss_nil)), ?_⟩
    exact ⟨_, rfl, _, rfl, _, _, r, ns, rfl, hv, hR, h14, ro, fun H1 s1 => ⟨_, rfl, iteF (k H1 s1)⟩⟩
def spVoices (K : PySem.W.Frag) : Sp := fun vs H Q _ => ∃ (v u : V) (r : List Int) (ns : List Num), vs = [v, u] ∧ TupI K H v r ∧ RowAt K H u ns ∧ r ∈ RR ∧ RowG r ns ∧ ∀ v' H', Same H H' → RowAt K H' v' (voL r ns) → Q v' H'
theorem scVoices : FnScope ["rings", "row"] ["rings", "row"] (defScope sVoices) := ⟨rfl, rfl, rfl, by decide +kernel, rfl, by decide +kernel, by decide +kernel⟩
theorem ok_voices (F : FnP K "voices" sVoices f fd) (T : FlT K mg C fI fM) (FI : FunD K "__init__" "Floor.__init__" (defArgs sFInit) (defBody sFInit) (defScope sFInit) [] [] fI fdI) (GI : FnOk P w K mg base CX0 3 fI fdI ["self", "rings"] (spFInit K C))
    (F1 : FnP K "check_row" sChkRow f1 fd1) (g1 : mg "check_row" = some (.ref f1)) (G1 : FnOk P w K mg base CX0 7 f1 fd1 ["rings", "row"] (spRow K .non)) (F2 : FnP K "voices_of" sVOf f2 fd2) (g2 : mg "voices_of" = some (.ref f2)) (G2 : FnOk P w K mg base CX0 4 f2 fd2 ["floor", "row"] (spVO K C)) :
    FnOk P w K mg base CX0 8 f fd ["rings", "row"] (spVoices K) := by
  have bI : Binds K fdI ["self", "rings"] [] := FI.bindsN fun _ _ _ _ _ _ us hl => match us, hl with | [_, _], _ => rfl
  have b1 : Binds K fd1 ["rings", "row"] [] := F1.bindsN fun _ _ _ _ _ _ us hl => match us, hl with | [_, _], _ => rfl
  have b2 : Binds K fd2 ["floor", "row"] [] := F2.bindsN fun _ _ _ _ _ _ us hl => match us, hl with | [_, _], _ => rfl
  refine F.ok scVoices (fun vs H Q E h => ?_) (fun cdv A outer s H vs Q E hr h => ?_)
  · obtain ⟨v, u, r, ns, rfl, _⟩ := h
    rfl
  · obtain ⟨v, u, r, ns, rfl, ⟨a, rfl, ha⟩, hR, h14, ro, k⟩ := h
    refine ⟨_, PSs.nox (pss_cons (ps_expr (pe_call G1 hr rfl g1 F1.kp b1 .nil pass0 (pa_cons (pv 0) (pa_cons (pv 1) pa_nil))))
      (pss_one (ps_ret (pe_call G2 (hr.mono (by decide)) rfl g2 F2.kp b2 .nil pass0 (pa_cons (pe_make T.mkk GI (hr.mono (by decide)) rfl T.mgC bI .nil pass0 (pa_cons (pv 0) pa_nil)) (pa_cons (pv 1) pa_nil)))))), ?_⟩
    refine ⟨_, rfl, _, rfl, _, _, r, ns, rfl, ⟨a, rfl, ha⟩, hR, h14, ro, fun H1 s1 => ?_⟩
    refine ⟨_, rfl, fun p dx np ndx nex => ?_⟩
    have tn : Same H1 (upd (upd H1 dx (.own p)) p (.ins C dx [])) := same_new (same_upd ndx) (by rw [upd_ne (Ne.symm nex)]; exact np)
    refine ⟨p, dx, _, r, rfl, upd_same, ⟨a, rfl, tn.tup (s1.tup ha)⟩, h14, fun H3 hF kp => ⟨rfl, ?_⟩⟩
    have s3 : Same H1 H3 := Same.made np ndx kp
    have t3 := s1.trans s3
    exact ⟨_, rfl, p, _, r, ns, rfl, hF, t3.row hR, h14, ro.ok, fun v' H4 s4 hv' => k v' H4 (t3.trans s4) hv'⟩
end
end K09

/-! enumerate of a tuple. -/
namespace K09
open PySem PySem.Spec PyProof.Rows L2
theorem meets_enum1 {v : Value} {o : Obj} {H : Heap → Prop} (B : Begins v o H) :
    Meets (Builtin.«enumerate.__new__» ⟨[.type "enumerate", v], []⟩) (fun _ R s => H s.heap ∧
      R (.ok (.ret (.ref (s.heap.push o).objs.size))) { s with heap := (s.heap.push o).push { cls := .type "enumerate", data := .fields #[.none, .bool false, .ref s.heap.objs.size, rawInt 0, .none, .none] } }) :=
  .of_wp fun prog w A R s h => by
    obtain ⟨hp, g, d, tk, os⟩ := s; obtain ⟨h1, h⟩ := h
    have hsub := sub_enumerate
    have q1 : ∀ {A' : Around} {E : Value → Shared → Prop} {Q : Value → Shared → Prop}, Q (.ref hp.objs.size) ⟨hp.push o, g, d, tk, os⟩ → wpAny (model prog w) A' (pyIter v) Q E ⟨hp, g, d, tk, os⟩ :=
      fun q => B.iter prog w _ _ ⟨hp, g, d, tk, os⟩ _ h1 q
    wp_walk using q1
    refine wpAny_stack_any fun st => wpAny_pure ?_
    split
    · rename_i c _ _ _ _ _
      cases (c == Value.type "enumerate")
      · wp_walk using q1
        exact ⟨_, rfl, h⟩
      · wp_walk using q1
        exact ⟨_, rfl, h⟩
    · wp_walk using q1
      exact ⟨_, rfl, h⟩
theorem enum1_begins {prog : Program} {w : World} {A : Around} {E : Value → Shared → Prop} {s : Shared} {v : Value} {o : Obj} {H : Heap → Prop} {Q : Value → Shared → Prop} (B : Begins v o H) (h1 : H s.heap)
    (h : ∀ h', IsEnum h' (s.heap.objs.size + 1) s.heap.objs.size 0 .none → h'.get? s.heap.objs.size = some o → h'.objs.size = s.heap.objs.size + 2 →
      (∀ b o, s.heap.get? b = some o → h'.get? b = some o) → Q (.ref (s.heap.objs.size + 1)) { s with heap := h' }) :
    wpAny (model prog w) A (call (.type "enumerate") [v]) Q E s := by
  refine callType_new PySem.F.called_enumerate (by decide) (PySem.F.typeCall_enumerate_1 _) (PySem.F.newCall_enumerate_1 _) (fun obj => PySem.F.args_object_init_2 obj _) PySem.F.entry_enumerate_new
    (meets_enum1 B) ⟨h1, ?_⟩
  have hz : (s.heap.push o).objs.size = s.heap.objs.size + 1 := Heap.size_push ..
  show _ ∧ _
  rw [hz]
  have he : IsEnum ((s.heap.push o).push { cls := .type "enumerate", data := .fields #[.none, .bool false, .ref s.heap.objs.size, rawInt 0, .none, .none] }) (s.heap.objs.size + 1) s.heap.objs.size 0 .none := by
    have := Heap.get?_push_size (s.heap.push o) (o := { cls := .type "enumerate", data := .fields #[.none, .bool false, .ref s.heap.objs.size, rawInt 0, .none, .none] }) rfl
    rw [hz] at this; exact this
  refine ⟨⟨_, he, rfl⟩, h _ he (Heap.get?_push_of_some _ (Heap.get?_push_size _ B.free)) (by rw [Heap.size_push, hz]) fun b o x => Heap.get?_push_of_some _ (Heap.get?_push_of_some _ x)⟩
/-- the tuple at a as it stands at each turn, each item in a new pair -/
def IteT (K : PySem.W.Frag) (a : Addr) : It :=
  ⟨fun i H => ∃ (xs : List V) (x : V), SqT K H a xs ∧ xs[i]? = some x, fun i H v H' => ∃ T x, v = .ref T ∧ H T = none ∧ H' = upd H T (.tup [.int (i : Nat), x]) ∧ ∀ xs, SqT K H a xs → xs[i]? = some x, fun i H => ∃ xs : List V, SqT K H a xs ∧ xs.length = i⟩
theorem turn_enumT {P : Program} {w : World} {K : PySem.W.Frag} {elts : List Expr} {kk : Nat} {tpos : Pos} {a e it : Addr} (hei : e ≠ it) (hea : e ∉ [it, a]) (na : a ≠ it) :
    Turn P w K (.Tuple elts kk tpos) (IteT K a) [e, it] e (fun i h => (∃ old, IsEnum h e it ((0 : Int) + (i : Int)) old) ∧ h.IsTupleIter it a i) where
  mem := by simp
  obj := fun i h st b hb => by
    obtain ⟨⟨old, he⟩, ⟨o, ho, hc, hd⟩⟩ := st
    have e' : b = e ∨ b = it := by simpa using hb
    rcases e' with z | z
    · rw [z]; exact ⟨_, he, fun v q => nomatch q⟩
    · rw [z]; exact ⟨o, ho, fun v q => by rw [hd] at q; cases q⟩
  keep := fun i h h' st k => let ⟨⟨old, he⟩, hi⟩ := st; ⟨⟨old, k e (by simp) _ he⟩, hi.at fun o q => k it (by simp) o q⟩
  item := by
    intro X hP hw hK hc i pins s σ H E I hf st hg
    subst hP hw hK
    obtain ⟨he, h1⟩ := st
    obtain ⟨xs, x, hq, hx⟩ := hg
    obtain ⟨its, rv, p, _⟩ := I.tuple hq
    obtain ⟨u, hu, ru⟩ := rv.get hx
    have hh : X.A.in1.handled = none := I.ok.hd hc
    have G := GoesN.enumFrom (prog := X.prog) (w := X.w) (A := X.A) (elts := elts) (x1 := kk) (pos := tpos) 0 (Draws.tuple hh it a na its.toArray) e hei hea (by simp)
    have l1 := ltL hu
    refine G.goes i s (fun u s2 => ∃ x H', Inv X pins σ H' s2 ∧ RelV x u ∧ (IteT X.K a).yld i H x H' ∧ _ ∧ ∀ b ∈ [e, it], H' b = none) E (by simpa using l1) ⟨he, h1, p⟩ fun v h' tk hY st2 hk htk => ?_
    obtain ⟨T, t, w1, rfl, hT, q1, hI⟩ := hY
    obtain ⟨he', k1, _⟩ := st2
    have e1 : w1 = u := by simpa [hu] using q1.symm
    subst e1
    have new : ObjOk X.prog X.w (upd H T (.tup [.int (i : Nat), x])) h' T (.tup [.int (i : Nat), x]) := ⟨by show 2 ≤ sizeLine; decide, [.int ((0 : Int) + (i : Int)) t, w1], .cons ⟨t, by rw [Int.zero_add]⟩ (.cons ru .nil), hI⟩
    have I1 := I.turnedNew (t' := tk) (ch := [e, it]) hk hf hT new
    refine ⟨.ref T, _, I1, rfl, ⟨T, x, rfl, I.hok.fresh hT, rfl, fun l hl => by rw [I.tuple_inj hl hq]; exact hx⟩, ⟨he', k1⟩, fun b hb => ?_⟩
    have hlt : b < s.heap.objs.size := by
      have e' : b = e ∨ b = it := by simpa using hb
      obtain ⟨_, f0⟩ := he
      obtain ⟨_, f1, _⟩ := h1
      rcases e' with q | q
      · rw [q]; exact Heap.lt_size f0
      · rw [q]; exact Heap.lt_size f1
    rw [upd_ne (Nat.ne_of_lt (Nat.lt_of_lt_of_le hlt hT))]
    exact (hf b hb).1
  done := by
    intro X hP hw hK hc i pins s σ H E I hf st hg
    subst hP hw hK
    obtain ⟨he, h1⟩ := st
    obtain ⟨xs, hq, hn⟩ := hg
    obtain ⟨its, rv, p, _⟩ := I.tuple hq
    have l1 := rv.length
    have hh : X.A.in1.handled = none := I.ok.hd hc
    have G := GoesN.enumFrom (prog := X.prog) (w := X.w) (A := X.A) (elts := elts) (x1 := kk) (pos := tpos) 0 (Draws.tuple hh it a na its.toArray) e hei hea (by simp)
    have en : its.toArray.size = i := by simp; omega
    rw [en] at G
    exact G.stops s _ E ⟨he, h1, p⟩ fun h' tk hk htk => I.turnedL (t' := tk) (ch := [e, it]) hk hf
  self := fun A i s Q E st h => let ⟨⟨_, he⟩, _⟩ := st; wpAny_pyIter_enum he h
def iEnumT (K : PySem.W.Frag) (ta : TA) : TI := fun σ H R => ta σ H fun vs H1 => ∃ a xs, vs = [.ref a] ∧ SqT K H1 a xs ∧ R (IteT K a) H1
theorem pi_enumT {X : Cx} {e : Expr} {ta : TA} {p pos tpos : Pos} {elts : List Expr} {kk : Nat} (hg : Gl X "enumerate") (hm : X.mg "enumerate" = none) (ha : PA X [e] ta) (hs : starEach [e] X.env = [(false, eval e X.env)] := by rfl) :
    PI X (.Tuple elts kk tpos) (.Call (.Name "enumerate" p) [e] [] pos) (iEnumT X.K ta) := by
  refine ⟨fun pins s σ H R I h => ?_⟩
  refine Call_ (ld_blt I hg hm boot_enumerate (PyProof.Rows.callWith_type1 (thn (ha.run pos pins s σ H _ I h) fun us s1 ⟨vs, H1, I1, r1, q1⟩ => ?_) hs rfl))
  obtain ⟨a, xs, rfl, hq, q⟩ := q1
  cases r1 with
  | cons r rr =>
    cases rr
    cases r
    obtain ⟨its, rv, p', _⟩ := I1.tuple hq
    obtain ⟨o1, ho1, _⟩ := id p'
    have la := Heap.lt_size ho1
    generalize hN : s1.heap.objs.size = N at la
    refine enum1_begins (begins_tuple a its.toArray) p' fun h' he g1 hsz hk => wpAny_pyIter_enum he ?_
    rw [hN] at he g1 ⊢
    have I2 : Inv X pins σ H1 { s1 with heap := h' } := I1.kept (t' := s1.toks) hk
    refine ⟨N + 1, [N + 1, N], _, _, H1, rfl, I2, turn_enumT (a := a) (e := N + 1) (it := N) (Nat.succ_ne_self _) ?_ (Nat.ne_of_lt la), ⟨⟨_, he⟩, ⟨_, g1, rfl, rfl⟩⟩, fun b hb => ?_, q⟩
    · intro z
      have e' : N + 1 = N ∨ N + 1 = a := by simpa using z
      rcases e' with z | z
      · exact Nat.succ_ne_self _ z
      · rw [← z] at la
        exact Nat.lt_irrefl _ (Nat.lt_of_succ_lt la)
    · have hle : s1.heap.objs.size ≤ b := by
        have e' : b = N + 1 ∨ b = N := by simpa using hb
        rw [hN]
        rcases e' with z | z
        · rw [z]; exact Nat.le_add_right _ _
        · rw [z]; exact Nat.le_refl _
      exact I1.fpOk hle (I1.hok.fresh hle)
theorem walk_enumT {K : PySem.W.Frag} {a : Addr} {xs : List V} : Walk (IteT K a) xs.length (fun H => SqT K H a xs) (YPair (fun i => some (.int (i : Nat))) (fun i => xs[i]?)) := by
  refine ⟨fun i _ hi q => ⟨xs, xs[i], q, by simp [hi]⟩, fun _ q => ⟨xs, q, rfl⟩, fun i H v H' _ q y => ?_⟩
  obtain ⟨T, x, h1, h2, h3, h4⟩ := y
  exact ⟨T, .int (i : Nat), x, h1, h2, h3, rfl, h4 xs q⟩
end K09

/-! Numbers multiplied, exchanged; turns. -/
namespace K09
open PySem PySem.Spec PyProof.Rows L2
theorem mulR_len (one : Int) (i : Nat) (others tot : List Int) : ∀ k, (mulR one i others tot k).length = tot.length
  | 0 => rfl
  | k + 1 => by
    show (List.set _ _ _).length = tot.length
    rw [List.length_set, mulR_len one i others tot k]
theorem mulGo_len (ones others : List Int) : ∀ i, (mulGo ones others i).length = ones.length + others.length - 1
  | 0 => by simp [mulGo]
  | i + 1 => by
    show (mulR _ _ _ _ _).length = _
    rw [mulR_len, mulGo_len ones others i]
section
variable {P : Program} {w : World} {K : PySem.W.Frag} {mg : Str → Option Value} {base : Heap} {f f1 f2 f3 f4 f5 C fI fM : Addr} {fd fd1 fd2 fd3 fd4 fd5 fdI : FuncData}
def spMulP (K : PySem.W.Frag) : Sp := fun vs H Q _ => ∃ (a b c : Addr) (ones others dv : List Int), vs = [.ref a, .ref b, .ref c] ∧ SqT K H a (ones.map V.int) ∧ SqT K H b (others.map V.int) ∧ SqT K H c (dv.map V.int) ∧ 2 ≤ dv.length ∧ dv.length ≤ 100 ∧ (∀ d ∈ dv, -1000 ≤ d ∧ d ≤ 1000) ∧ 1 ≤ ones.length ∧ ones.length ≤ 50 ∧ 1 ≤ others.length ∧ others.length ≤ 50 ∧ ((∀ t ∈ ones, -(2 ^ 64) < t ∧ t < 2 ^ 64) ∨ ∀ t ∈ others, -(2 ^ 64) < t ∧ t < 2 ^ 64) ∧
  ∀ t H', Same H H' → H t = none → H' t = some (.tup ((mulL ones others dv).map V.int)) → Q (.ref t) H'
abbrev mpN : List Str := ["ones", "others", "polynomial", "total", "i", "one", "k", "other"]
theorem scMulP : FnScope mpN ["ones", "others", "polynomial"] (defScope sMulP) := ⟨rfl, rfl, rfl, by decide +kernel, rfl, by decide +kernel, by decide +kernel⟩
theorem ok_mulP (F : FnP K "multiplied" sMulP f fd) (B : Bl mg) (F1 : FnP K "reduced" sRed f1 fd1) (g1 : mg "reduced" = some (.ref f1)) (G1 : FnOk P w K mg base CX0 2 f1 fd1 ["items", "polynomial"] (spRed K)) : FnOk P w K mg base CX0 3 f fd ["ones", "others", "polynomial"] (spMulP K) := by
  have b1 : Binds K fd1 ["items", "polynomial"] [] := F1.bindsN fun _ _ _ _ _ _ us hl => match us, hl with | [_, _], _ => rfl
  refine F.ok scMulP (fun vs H Q E h => ?_) (fun cdv A outer s H vs Q E hr h => ?_)
  · obtain ⟨a, b, c, ones, others, dv, rfl, _⟩ := h
    rfl
  · obtain ⟨a, b, c, ones, others, dv, rfl, ha, hb, hc, d1, d2, db, l1, l2, m1, m2, ob, k⟩ := h
    refine ⟨_, PSs.nox (pss_cons (ps_set (i := 3) scMulP.nd rfl (Or.inl rfl) (pe_op op_rep (pe_lst (pa_cons pe_int pa_nil)) (pe_op op_sub (pe_op op_add (pe_callB call_len_seq (by rfl) (B "len" (by decide +kernel)) PySem.boot_len (pa_cons (pv 0) pa_nil)) (pe_callB call_len_seq (by rfl) (B "len" (by decide +kernel)) PySem.boot_len (pa_cons (pv 1) pa_nil))) pe_int)))
      (pss_cons (ps_for PassesOwn.never rfl (pi_enumT (by rfl) (B "enumerate" (by decide +kernel)) (pa_cons (pv 0) pa_nil)) (pg_tup rfl (pgs_cons (pg_name (i := 4) scMulP.nd rfl (Or.inl rfl)) (pgs_cons (pg_name (i := 5) scMulP.nd rfl (Or.inl rfl)) pgs_nil)))
        (pss_one (ps_for PassesOwn.never rfl (pi_enumT (by rfl) (B "enumerate" (by decide +kernel)) (pa_cons (pv 1) pa_nil)) (pg_tup rfl (pgs_cons (pg_name (i := 6) scMulP.nd rfl (Or.inl rfl)) (pgs_cons (pg_name (i := 7) scMulP.nd rfl (Or.inl rfl)) pgs_nil)))
          (pss_one (ps_augS (pv 3) (pe_op op_add (pv 4) (pv 6)) get_list (pe_op op_mul (pv 5) (pv 7)) ip_add set_list)))))
      (pss_one (ps_ret (pe_call G1 hr rfl g1 F1.kp b1 .nil pass0 (pa_cons (pv 3) (pa_cons (pv 2) pa_nil))))))), ?_⟩
    refine ⟨by show 1 ≤ sizeLine; decide, fun z hz => ?_⟩
    have sz : Same H (upd H z (.lst [.int 0])) := same_upd hz
    have em : (((ones.map V.int).length : Int) + ((others.map V.int).length : Int) - 1) = ((ones.length + others.length - 1 : Nat) : Int) := by
      rw [List.length_map, List.length_map]
      omega
    refine ⟨_, rfl, a, _, rfl, .inr (sz.tup ha), _, rfl, b, _, rfl, .inr (sz.tup hb), _, _, rfl, rfl, _, _, rfl, rfl, z, _, _, rfl, rfl, upd_same, ?_⟩
    rw [em]
    refine ⟨by omega, by omega, ?_, fun D hD => ?_⟩
    · rw [Int.toNat_natCast]
      exact sl_1000 (by simp; omega)
    rw [Int.toNat_natCast, rep_flat]
    have nD : H D = none := sz.free hD
    have s1 : Same H (upd (upd H z (.lst [.int 0])) D (.lst (List.replicate (ones.length + others.length - 1) (V.int 0)))) := same_new sz hD
    refine ⟨_, rfl, a, ones.map V.int, rfl, s1.tup ha, ?_⟩
    refine for_it (walk_enumT (K := K) (a := a) (xs := ones.map V.int)) (fun i σ H2 => ∃ u4 u5 u6 u7, σ = [some (.ref a), some (.ref b), some (.ref c), some (.ref D), u4, u5, u6, u7] ∧ Same H H2 ∧ H2 D = some (.lst ((mulGo ones others i).map V.int))) ⟨none, none, none, none, rfl, s1, ?_⟩ (fun i σ H2 _ ⟨_, _, _, _, _, s2, _⟩ => s2.tup ha) ?_ ?_
    · rw [upd_same]
      simp [mulGo]
    · rintro i x σ H2 H3 hi ⟨u4, u5, u6, u7, rfl, s2, h2⟩ ⟨T, c1, y, rfl, hT, rfl, ec, ey⟩
      obtain ⟨one, rfl, hone⟩ := getI ey
      obtain rfl := Option.some.inj ec
      rw [List.length_map] at hi
      have s3 : Same H (upd H2 T (.tup [.int (i : Int), .int one])) := same_new s2 hT
      have h3 : upd H2 T (.tup [.int (i : Int), .int one]) D = some (.lst ((mulGo ones others i).map V.int)) := by rw [upd_ne (ne_of_none h2 hT)]; exact h2
      refine ⟨T, _, rfl, SqT.of upd_same, rfl, _, _, rfl, _, _, rfl, rfl, ?_⟩
      generalize hH3 : upd H2 T (.tup [.int (i : Int), .int one]) = H3 at s3 h3
      have gl := mulGo_len ones others i
      refine ⟨_, rfl, b, others.map V.int, rfl, s3.tup hb, ?_⟩
      refine for_it (walk_enumT (K := K) (a := b) (xs := others.map V.int)) (fun j σ H4 => ∃ v6 v7, σ = [some (.ref a), some (.ref b), some (.ref c), some (.ref D), some (.int (i : Int)), some (.int one), v6, v7] ∧ Same H H4 ∧ H4 D = some (.lst ((mulR one i others (mulGo ones others i) j).map V.int))) ⟨u6, u7, rfl, s3, h3⟩ (fun j σ H4 _ ⟨_, _, _, s4, _⟩ => s4.tup hb) ?_ ?_
      · rintro j v σ H4 H5 hj ⟨v6, v7, rfl, s4, h4⟩ ⟨T5, c5, y5, rfl, hT5, rfl, ec5, ey5⟩
        obtain ⟨other, rfl, hother⟩ := getI ey5
        obtain rfl := Option.some.inj ec5
        rw [List.length_map] at hj
        have s5 : Same H (upd H4 T5 (.tup [.int (j : Int), .int other])) := same_new s4 hT5
        have h5 : upd H4 T5 (.tup [.int (j : Int), .int other]) D = some (.lst ((mulR one i others (mulGo ones others i) j).map V.int)) := by rw [upd_ne (ne_of_none h4 hT5)]; exact h4
        have al := mulR_len one i others (mulGo ones others i) j
        have bo : CMul one other := ob.imp (fun z => z one (List.mem_of_getElem? hone)) (fun z => z other (List.mem_of_getElem? hother))
        refine ⟨T5, _, rfl, SqT.of upd_same, rfl, _, _, rfl, _, _, rfl, rfl, ?_⟩
        refine ⟨_, rfl, _, rfl, _, rfl, _, _, rfl, rfl, ?_⟩
        have ek : (i : Int) + (j : Int) = ((i + j : Nat) : Int) := by push_cast; rfl
        refine ⟨D, _, i + j, _, rfl, congrArg V.int ek, SqL.of h5, getD_of (by rw [al, gl]; omega), _, rfl, _, rfl, _, _, rfl, rfl, bo, _, _, rfl, rfl, D, _, _, i + j, rfl, rfl, h5, ?_, some (.int (j : Int)), some (.int other), rfl, same_at s5 nD, ?_⟩
        · rw [ek, List.length_map, al, gl]
          exact ixN_nat (by omega)
        · rw [upd_same]
          have e5 : others.getD j 0 = other := by rw [List.getD_eq_getElem?_getD, hother]; rfl
          show _ = some (HO.lst (((mulR one i others (mulGo ones others i) j).set (i + j) ((mulR one i others (mulGo ones others i) j).getD (i + j) 0 + one * others.getD j 0)).map V.int))
          rw [e5, List.map_set]
      · rintro σ H4 ⟨v6, v7, rfl, s4, h4⟩
        refine ⟨_, _, _, _, rfl, s4, ?_⟩
        rw [h4, List.length_map]
        have e3 : ones.getD i 0 = one := by rw [List.getD_eq_getElem?_getD, hone]; rfl
        show _ = some (HO.lst ((mulR (ones.getD i 0) i others (mulGo ones others i) others.length).map V.int))
        rw [e3]
    · rintro σ H2 ⟨u4, u5, u6, u7, rfl, s2, h2⟩
      rw [List.length_map] at h2
      have gl := mulGo_len ones others ones.length
      refine ⟨_, rfl, _, rfl, D, c, _, dv, rfl, SqL.of h2, s2.tup hc, d1, d2, by omega, db, fun t H3 s3 nt h3 => ?_⟩
      exact k t H3 (s2.trans s3) (s2.free nt) h3
end
end K09

namespace K09
open PySem PySem.Spec PyProof.Rows L2
theorem redL_len {xs dv : List Int} (h : 1 ≤ dv.length) : (redL xs dv).length = dv.length - 1 := by
  have := divL_le (xs := xs) h
  unfold redL
  rw [List.length_append, List.length_replicate]
  omega
theorem er_units : ∀ e ∈ ER, 1 ≤ (unitsL e).length ∧ (unitsL e).length ≤ 50 := by decide +kernel
section
variable {P : Program} {w : World} {K : PySem.W.Frag} {mg : Str → Option Value} {base : Heap} {f f1 f2 f3 f4 f5 C fI fM : Addr} {fd fd1 fd2 fd3 fd4 fd5 fdI : FuncData}
def spChkN (K : PySem.W.Frag) : Sp := fun vs H Q _ => ∃ (e : Int) (v : V) (n : Num), vs = [.int e, v] ∧ 1 ≤ e ∧ e ≤ 60 ∧ NumAt K H v n ∧ NumOk e n ∧ ∀ H', Same H H' → Q .non H'
theorem scChkN : FnScope ["order", "number"] ["order", "number"] (defScope sChkN) := ⟨rfl, rfl, rfl, by decide +kernel, rfl, by decide +kernel, by decide +kernel⟩
theorem ok_chkN (F : FnP K "check_number" sChkN f fd) (F1 : FnP K "is_number" sIsNum f1 fd1) (g1 : mg "is_number" = some (.ref f1)) (G1 : FnOk P w K mg base CX0 4 f1 fd1 ["order", "thing"] (spIsNum K (.bl true))) : FnOk P w K mg base CX0 5 f fd ["order", "number"] (spChkN K) := by
  have b1 : Binds K fd1 ["order", "thing"] [] := F1.bindsN fun _ _ _ _ _ _ us hl => match us, hl with | [_, _], _ => rfl
  refine F.ok scChkN (fun vs H Q E h => ?_) (fun cdv A outer s H vs Q E hr h => ?_)
  · obtain ⟨e, v, n, rfl, _⟩ := h
    rfl
  · obtain ⟨e, v, n, rfl, h1, h2, hv, ok, k⟩ := h
    refine ⟨_, PSs.nox (pss_one (ps_if (pt_not (pt_val (pe_call G1 hr rfl g1 F1.kp b1 .nil pass0 (pa_cons (pv 0) (pa_cons (pv 1) pa_nil))))) (pss_one ps_never) pss_nil)), ?_⟩
    exact ⟨_, rfl, _, rfl, e, _, n, rfl, h1, h2, hv, ok, fun H1 s1 => ⟨_, rfl, iteF (k H1 s1)⟩⟩
def spProd (K : PySem.W.Frag) : Sp := fun vs H Q _ => ∃ (e : Int) (v u : V) (a b : Num), vs = [.int e, v, u] ∧ e ∈ ER ∧ NumAt K H v a ∧ NumAt K H u b ∧ a.1.length = (unitsL e).length ∧ b.1.length = (unitsL e).length ∧ 1 ≤ a.2 ∧ a.2 ≤ 1000 ∧ 1 ≤ b.2 ∧ b.2 ≤ 1000 ∧ ((∀ t ∈ a.1, -(2 ^ 64) < t ∧ t < 2 ^ 64) ∨ ∀ t ∈ b.1, -(2 ^ 64) < t ∧ t < 2 ^ 64) ∧
  ∀ v' H', Same H H' → NumAt K H' v' (prodL e a b) → Q v' H'
abbrev prN : List Str := ["order", "one", "other", "ones", "bottom", "others", "other_bottom"]
theorem scProd : FnScope prN ["order", "one", "other"] (defScope sProd) := ⟨rfl, rfl, rfl, by decide +kernel, rfl, by decide +kernel, by decide +kernel⟩
theorem ok_prod (F : FnP K "_product" sProd f fd) (F1 : FnP K "multiplied" sMulP f1 fd1) (g1 : mg "multiplied" = some (.ref f1)) (G1 : FnOk P w K mg base CX0 3 f1 fd1 ["ones", "others", "polynomial"] (spMulP K)) (F2 : FnP K "polynomial_of" sPoly f2 fd2) (g2 : mg "polynomial_of" = some (.ref f2)) (G2 : FnOk P w K mg base CX0 2 f2 fd2 ["order"] (spPoly K))
    (F3 : FnP K "lowered" sLow f3 fd3) (g3 : mg "lowered" = some (.ref f3)) (G3 : FnOk P w K mg base CX0 1 f3 fd3 ["tops", "bottom"] (spLow K)) : FnOk P w K mg base CX0 4 f fd ["order", "one", "other"] (spProd K) := by
  have b1 : Binds K fd1 ["ones", "others", "polynomial"] [] := F1.bindsN fun _ _ _ _ _ _ us hl => match us, hl with | [_, _, _], _ => rfl
  have b2 : Binds K fd2 ["order"] [] := F2.bindsN fun _ _ _ _ _ _ us hl => match us, hl with | [_], _ => rfl
  have b3 : Binds K fd3 ["tops", "bottom"] [] := F3.bindsN fun _ _ _ _ _ _ us hl => match us, hl with | [_, _], _ => rfl
  refine F.ok scProd (fun vs H Q E h => ?_) (fun cdv A outer s H vs Q E hr h => ?_)
  · obtain ⟨e, v, u, a, b, rfl, _⟩ := h
    rfl
  · obtain ⟨e, v, u, a, b, rfl, he, hv, hu, la, lb, a1, a2, c1, c2, bb, k⟩ := h
    refine ⟨_, PSs.nox (pss_cons (ps_asg (pv 1) (pg_tup rfl (pgs_cons (pg_name (i := 3) scProd.nd rfl (Or.inl rfl)) (pgs_cons (pg_name (i := 4) scProd.nd rfl (Or.inl rfl)) pgs_nil))))
      (pss_cons (ps_asg (pv 2) (pg_tup rfl (pgs_cons (pg_name (i := 5) scProd.nd rfl (Or.inl rfl)) (pgs_cons (pg_name (i := 6) scProd.nd rfl (Or.inl rfl)) pgs_nil))))
      (pss_one (ps_ret (pe_call G3 (hr.mono (by decide)) rfl g3 F3.kp b3 .nil pass0 (pa_cons (pe_call G1 hr rfl g1 F1.kp b1 .nil pass0 (pa_cons (pv 3) (pa_cons (pv 5) (pa_cons (pe_call G2 (hr.mono (by decide)) rfl g2 F2.kp b2 .nil pass0 (pa_cons (pv 0) pa_nil)) pa_nil)))) (pa_cons (pe_op op_mul (pv 4) (pv 6)) pa_nil))))))), ?_⟩
    obtain ⟨p, t, rfl, hp, ht⟩ := hv
    obtain ⟨p2, t2, rfl, hp2, ht2⟩ := hu
    have ep := er_poly e he
    have eb := er_bd e he
    have eu := er_units e he
    refine ⟨_, rfl, p, _, rfl, hp, rfl, _, _, rfl, _, _, rfl, rfl, ?_⟩
    refine ⟨_, rfl, p2, _, rfl, hp2, rfl, _, _, rfl, _, _, rfl, rfl, ?_⟩
    refine ⟨_, rfl, _, rfl, _, rfl, e, rfl, he, fun po H1 s1 npo h1 => ?_⟩
    refine ⟨t, t2, po, a.1, b.1, polyL e, rfl, s1.tup ht, s1.tup ht2, SqT.of h1, ep.1, by omega, ep.2.2, by omega, by omega, by omega, by omega, bb, fun m H2 s2 nm h2 => ?_⟩
    have q1 : 1 * 1 ≤ a.2 * b.2 := Int.mul_le_mul a1 c1 (by decide) (by omega)
    have q2 : a.2 * b.2 ≤ 1000 * 1000 := Int.mul_le_mul a2 c2 (by omega) (by decide)
    refine ⟨_, rfl, _, rfl, _, _, rfl, rfl, Or.inl ⟨by omega, by omega⟩, m, mulL a.1 b.1 (polyL e), a.2 * b.2, rfl, .inr (SqT.of h2), by omega, by omega, ?_, fun v' H3 s3 hv' => ?_⟩
    · unfold mulL
      rw [redL_len (by omega)]
      omega
    · exact k v' H3 ((s1.trans s2).trans s3) hv'
def spTimes (K : PySem.W.Frag) : Sp := fun vs H Q _ => ∃ (e : Int) (v u : V) (a b : Num), vs = [.int e, v, u] ∧ e ∈ ER ∧ NumAt K H v a ∧ NumAt K H u b ∧ NumOk e a ∧ NumOk e b ∧ ((∀ t ∈ a.1, -(2 ^ 64) < t ∧ t < 2 ^ 64) ∨ ∀ t ∈ b.1, -(2 ^ 64) < t ∧ t < 2 ^ 64) ∧ ∀ v' H', Same H H' → NumAt K H' v' (prodL e a b) → Q v' H'
theorem scTimes : FnScope ["order", "one", "other"] ["order", "one", "other"] (defScope sTimes) := ⟨rfl, rfl, rfl, by decide +kernel, rfl, by decide +kernel, by decide +kernel⟩
theorem ok_times (F : FnP K "times" sTimes f fd) (F1 : FnP K "check_number" sChkN f1 fd1) (g1 : mg "check_number" = some (.ref f1)) (G1 : FnOk P w K mg base CX0 5 f1 fd1 ["order", "number"] (spChkN K)) (F2 : FnP K "_product" sProd f2 fd2) (g2 : mg "_product" = some (.ref f2)) (G2 : FnOk P w K mg base CX0 4 f2 fd2 ["order", "one", "other"] (spProd K)) : FnOk P w K mg base CX0 6 f fd ["order", "one", "other"] (spTimes K) := by
  have b1 : Binds K fd1 ["order", "number"] [] := F1.bindsN fun _ _ _ _ _ _ us hl => match us, hl with | [_, _], _ => rfl
  have b2 : Binds K fd2 ["order", "one", "other"] [] := F2.bindsN fun _ _ _ _ _ _ us hl => match us, hl with | [_, _, _], _ => rfl
  refine F.ok scTimes (fun vs H Q E h => ?_) (fun cdv A outer s H vs Q E hr h => ?_)
  · obtain ⟨e, v, u, a, b, rfl, _⟩ := h
    rfl
  · obtain ⟨e, v, u, a, b, rfl, he, hv, hu, oa, ob, bb, k⟩ := h
    refine ⟨_, PSs.nox (pss_cons (ps_expr (pe_call G1 hr rfl g1 F1.kp b1 .nil pass0 (pa_cons (pv 0) (pa_cons (pv 1) pa_nil))))
      (pss_cons (ps_expr (pe_call G1 hr rfl g1 F1.kp b1 .nil pass0 (pa_cons (pv 0) (pa_cons (pv 2) pa_nil))))
      (pss_one (ps_ret (pe_call G2 (hr.mono (by decide)) rfl g2 F2.kp b2 .nil pass0 (pa_cons (pv 0) (pa_cons (pv 1) (pa_cons (pv 2) pa_nil)))))))), ?_⟩
    have eb := er_bd e he
    refine ⟨_, rfl, _, rfl, e, _, a, rfl, by omega, by omega, hv, oa, fun H1 s1 => ?_⟩
    refine ⟨_, rfl, _, rfl, e, _, b, rfl, by omega, by omega, s1.num hu, ob, fun H2 s2 => ?_⟩
    have t := s1.trans s2
    exact ⟨_, rfl, _, rfl, _, rfl, e, _, _, a, b, rfl, he, t.num hv, t.num hu, oa.len, ob.len, oa.pos, oa.big, ob.pos, ob.big, bb, fun v' H3 s3 hv' => k v' H3 (t.trans s3) hv'⟩
end
end K09

/-! Numbers exchanged. -/
namespace K09
open PySem PySem.Spec PyProof.Rows L2
def sprGo (e j : Int) (tops : List Int) : Nat → List Int
  | 0 => List.replicate e.toNat 0
  | k + 1 => stepT e (sprGo e j tops k) ((k : Int) * j) (tops.getD k 0)
theorem sprGo_len (e j : Int) (tops : List Int) : ∀ k, (sprGo e j tops k).length = e.toNat
  | 0 => by simp [sprGo]
  | k + 1 => by
    show (List.set _ _ _).length = _
    rw [List.length_set, sprGo_len e j tops k]
def exT (e j : Int) (tops : List Int) : List Int := redL (sprGo e j tops tops.length) (polyL e)
def exL (e : Int) (n : Num) (j : Int) : Num := (exT e j n.1, n.2)
section
variable {P : Program} {w : World} {K : PySem.W.Frag} {mg : Str → Option Value} {base : Heap} {f f1 f2 f3 f4 f5 C fI fM : Addr} {fd fd1 fd2 fd3 fd4 fd5 fdI : FuncData}
def spSpread (K : PySem.W.Frag) : Sp := fun vs H Q _ => ∃ (a : Addr) (tops : List Int) (e j : Int), vs = [.ref a, .int e, .int j] ∧ SqT K H a (tops.map V.int) ∧ 1 ≤ e ∧ e ≤ 60 ∧ -1000 ≤ j ∧ j ≤ 1000 ∧ tops.length ≤ 1000 ∧ ∀ t H', Same H H' → H t = none → H' t = some (.lst ((sprGo e j tops tops.length).map V.int)) → Q (.ref t) H'
abbrev sprN : List Str := ["tops", "many", "step", "items", "k", "top"]
theorem scSpread : FnScope sprN ["tops", "many", "step"] (defScope sSpread) := ⟨rfl, rfl, rfl, by decide +kernel, rfl, by decide +kernel, by decide +kernel⟩
theorem ok_spread (F : FnP K "spread" sSpread f fd) (B : Bl mg) : FnOk P w K mg base CX0 1 f fd ["tops", "many", "step"] (spSpread K) := by
  refine F.ok scSpread (fun vs H Q E h => ?_) (fun cdv A outer s H vs Q E hr h => ?_)
  · obtain ⟨a, tops, e, j, rfl, _⟩ := h
    rfl
  · obtain ⟨a, tops, e, j, rfl, ha, e1, e2, j1, j2, hl, k⟩ := h
    refine ⟨_, PSs.nox (pss_cons (ps_set (i := 3) scSpread.nd rfl (Or.inl rfl) (pe_op op_rep (pe_lst (pa_cons pe_int pa_nil)) (pv 1)))
      (pss_cons (ps_for PassesOwn.never rfl (pi_enumT (by rfl) (B "enumerate" (by decide +kernel)) (pa_cons (pv 0) pa_nil)) (pg_tup rfl (pgs_cons (pg_name (i := 4) scSpread.nd rfl (Or.inl rfl)) (pgs_cons (pg_name (i := 5) scSpread.nd rfl (Or.inl rfl)) pgs_nil)))
        (pss_one (ps_augS (pv 3) (pe_op op_mod (pe_op op_mul (pv 4) (pv 2)) (pv 1)) get_list (pv 5) ip_add set_list)))
      (pss_one (ps_ret (pv 3))))), ?_⟩
    refine ⟨by show 1 ≤ sizeLine; decide, fun z hz => ?_⟩
    have sz : Same H (upd H z (.lst [.int 0])) := same_upd hz
    refine ⟨_, rfl, z, _, _, rfl, rfl, upd_same, by omega, by omega, sl_1000 (by simp; omega), fun D hD => ?_⟩
    rw [rep_flat]
    have nD : H D = none := sz.free hD
    have s1 := same_new (o := .lst (List.replicate e.toNat (V.int 0))) sz hD
    refine ⟨_, rfl, a, tops.map V.int, rfl, s1.tup ha, ?_⟩
    refine for_it (walk_enumT (K := K) (a := a) (xs := tops.map V.int)) (fun i σ H2 => ∃ u4 u5, σ = [some (.ref a), some (.int e), some (.int j), some (.ref D), u4, u5] ∧ Same H H2 ∧ H2 D = some (.lst ((sprGo e j tops i).map V.int))) ⟨none, none, rfl, s1, ?_⟩ (fun i σ H2 _ ⟨_, _, _, s2, _⟩ => s2.tup ha) ?_ ?_
    · rw [upd_same]
      simp [sprGo]
    · rintro i x σ H2 H3 hi ⟨u4, u5, rfl, s2, h2⟩ ⟨T, c1, y, rfl, hT, rfl, ec, ey⟩
      obtain ⟨tv, rfl, htv⟩ := getI ey
      obtain rfl := Option.some.inj ec
      rw [List.length_map] at hi
      have s3 : Same H (upd H2 T (.tup [.int (i : Int), .int tv])) := same_new s2 hT
      have h3 : upd H2 T (.tup [.int (i : Int), .int tv]) D = some (.lst ((sprGo e j tops i).map V.int)) := by rw [upd_ne (ne_of_none h2 hT)]; exact h2
      have al := sprGo_len e j tops i
      have m0 := Int.emod_nonneg ((i : Int) * j) (show e ≠ 0 by omega)
      have m1 := Int.emod_lt_of_pos ((i : Int) * j) (show 0 < e by omega)
      obtain ⟨n, hn⟩ := Int.eq_ofNat_of_zero_le m0
      refine ⟨T, _, rfl, SqT.of upd_same, rfl, _, _, rfl, _, _, rfl, rfl, ?_⟩
      refine ⟨_, rfl, _, rfl, _, rfl, _, _, rfl, rfl, Or.inr ⟨by omega, by omega⟩, _, rfl, _, _, rfl, rfl, by omega, ?_⟩
      refine ⟨D, _, n, _, rfl, congrArg V.int hn, SqL.of h3, getD_of (by rw [al]; omega), _, rfl, _, _, rfl, rfl, D, _, _, n, rfl, rfl, h3, ?_, some (.int (i : Int)), some (.int tv), rfl, same_at s3 nD, ?_⟩
      · rw [hn, List.length_map, al]
        exact ixN_nat (by omega)
      · rw [upd_same]
        show _ = some (HO.lst ((stepT e (sprGo e j tops i) ((i : Int) * j) (tops.getD i 0)).map V.int))
        have e5 : tops.getD i 0 = tv := by rw [List.getD_eq_getElem?_getD, htv]; rfl
        unfold stepT
        rw [e5, hn, Int.toNat_natCast, List.map_set]
    · rintro σ H2 ⟨u4, u5, rfl, s2, h2⟩
      rw [List.length_map] at h2
      exact ⟨_, rfl, k D H2 s2 nD h2⟩
def spExT (K : PySem.W.Frag) : Sp := fun vs H Q _ => ∃ (a c : Addr) (tops : List Int) (e j : Int), vs = [.ref a, .int e, .int j, .ref c] ∧ SqT K H a (tops.map V.int) ∧ SqT K H c ((polyL e).map V.int) ∧ e ∈ ER ∧ -1000 ≤ j ∧ j ≤ 1000 ∧ tops.length ≤ 1000 ∧ ∀ t H', Same H H' → H t = none → H' t = some (.tup ((exT e j tops).map V.int)) → Q (.ref t) H'
theorem scExT : FnScope ["tops", "order", "j", "polynomial"] ["tops", "order", "j", "polynomial"] (defScope sExT) := ⟨rfl, rfl, rfl, by decide +kernel, rfl, by decide +kernel, by decide +kernel⟩
theorem ok_exT (F : FnP K "exchanged_tops" sExT f fd) (B : Bl mg) (F1 : FnP K "spread" sSpread f1 fd1) (g1 : mg "spread" = some (.ref f1)) (F2 : FnP K "reduced" sRed f2 fd2) (g2 : mg "reduced" = some (.ref f2)) (G2 : FnOk P w K mg base CX0 2 f2 fd2 ["items", "polynomial"] (spRed K)) : FnOk P w K mg base CX0 3 f fd ["tops", "order", "j", "polynomial"] (spExT K) := by
  have G1 : FnOk P w K mg base CX0 1 f1 fd1 ["tops", "many", "step"] (spSpread K) := ok_spread F1 B
  have b1 : Binds K fd1 ["tops", "many", "step"] [] := F1.bindsN fun _ _ _ _ _ _ us hl => match us, hl with | [_, _, _], _ => rfl
  have b2 : Binds K fd2 ["items", "polynomial"] [] := F2.bindsN fun _ _ _ _ _ _ us hl => match us, hl with | [_, _], _ => rfl
  refine F.ok scExT (fun vs H Q E h => ?_) (fun cdv A outer s H vs Q E hr h => ?_)
  · obtain ⟨a, c, tops, e, j, rfl, _⟩ := h
    rfl
  · obtain ⟨a, c, tops, e, j, rfl, ha, hc, he, j1, j2, hl, k⟩ := h
    refine ⟨_, PSs.nox (pss_one (ps_ret (pe_call G2 hr rfl g2 F2.kp b2 .nil pass0 (pa_cons (pe_call G1 (hr.mono (by decide)) rfl g1 F1.kp b1 .nil pass0 (pa_cons (pv 0) (pa_cons (pv 1) (pa_cons (pv 2) pa_nil)))) (pa_cons (pv 3) pa_nil))))), ?_⟩
    have ep := er_poly e he
    have eb := er_bd e he
    have al := sprGo_len e j tops tops.length
    refine ⟨_, rfl, _, rfl, _, rfl, a, tops, e, j, rfl, ha, by omega, by omega, j1, j2, hl, fun t H1 s1 nt h1 => ?_⟩
    exact ⟨_, rfl, t, c, _, polyL e, rfl, SqL.of h1, s1.tup hc, ep.1, by omega, by omega, ep.2.2, fun t2 H2 s2 nt2 h2 => k t2 H2 (s1.trans s2) (s1.free nt2) h2⟩
end
end K09

/-! Exchanged twice. -/
namespace K09
open PySem PySem.Spec PyProof.Rows L2
/-- the powers turned about, in the tables -/
def exB (t : Int × List Int × List (List Int)) : Bool :=
  (List.range t.1.toNat).all fun a => (List.range (t.2.1.length - 1)).all fun j =>
    decide (sm (t.2.1.length - 1) (fun k => (t.2.2.getD k []).getD a 0 * (t.2.2.getD j []).getD (((k : Int) * -1) % t.1).toNat 0) = (t.2.2.getD j []).getD (((a : Int) * -1) % t.1).toNat 0)
theorem ex_ok : ∀ t ∈ tabs, exB t = true := by decide +kernel
theorem dotc_spr {c : Nat → Int} {e : Int} (he : 0 < e) (j : Int) (tops : List Int) : ∀ k, dotc c (sprGo e j tops k) = sm k (fun m => tops.getD m 0 * c (((m : Int) * j) % e).toNat)
  | 0 => dotc_zero c _
  | k + 1 => by
    show dotc c (stepT e (sprGo e j tops k) ((k : Int) * j) (tops.getD k 0)) = _
    rw [dotc_step he (sprGo_len e j tops k), dotc_spr he j tops k]
    rfl
theorem exT_len {e j : Int} {tops : List Int} (h : 1 ≤ (polyL e).length) : (exT e j tops).length = (polyL e).length - 1 := redL_len' h
theorem exT_co {e j : Int} (he : 0 < e) (hp : 1 ≤ (polyL e).length) {tops : List Int} {i : Nat} (hi : i < (polyL e).length - 1) :
    (exT e j tops).getD i 0 = sm tops.length (fun m => tops.getD m 0 * Tz ((polyL e).length - 1) (polyL e) i (((m : Int) * j) % e).toNat) := by
  unfold exT
  rw [red_ph hp hi]
  exact dotc_spr he j tops tops.length
/-- exchanged twice -/
theorem exT_exT {e : Int} (h : e ∈ ER) {v : List Int} (hl : v.length = (polyL e).length - 1) : exT e (-1) (exT e (-1) v) = v := by
  obtain ⟨t, ht, et⟩ := er_tab e h
  have ok := tabs_ok t ht
  have sm0 := tab_sm t ht
  have eb := er_bd e h
  have hp : 2 ≤ (polyL e).length := by rw [← et, ok.1]; exact sm0.2.1
  have he : 0 < e := by omega
  have l1 := exT_len (e := e) (j := -1) (tops := v) (by omega)
  refine ext_getD (by rw [exT_len (by omega), hl]) fun i hi => ?_
  rw [exT_len (by omega)] at hi
  rw [exT_co he (by omega) hi, l1]
  have e1 : sm ((polyL e).length - 1) (fun m => (exT e (-1) v).getD m 0 * Tz ((polyL e).length - 1) (polyL e) i (((m : Int) * -1) % e).toNat) =
      sm ((polyL e).length - 1) (fun m => sm v.length (fun k => v.getD k 0 * (Tz ((polyL e).length - 1) (polyL e) m (((k : Int) * -1) % e).toNat * Tz ((polyL e).length - 1) (polyL e) i (((m : Int) * -1) % e).toNat))) := by
    refine sm_congr fun m hm => ?_
    rw [exT_co he (by omega) hm, ← sm_mulR]
    exact sm_congr fun k _ => Int.mul_assoc _ _ _
  rw [e1, sm_swap]
  have key : ∀ k, k < v.length → sm ((polyL e).length - 1) (fun m => v.getD k 0 * (Tz ((polyL e).length - 1) (polyL e) m (((k : Int) * -1) % e).toNat * Tz ((polyL e).length - 1) (polyL e) i (((m : Int) * -1) % e).toNat)) = (if k = i then v.getD k 0 else 0) := by
    intro k hk
    rw [sm_mul]
    have ep : polyL e = t.2.1 := by rw [← et]; exact ok.1
    have hle : (polyL e).length ≤ e.toNat := by rw [ep, ← et]; exact sm0.2.2.2.1
    have a0 := Int.emod_nonneg ((k : Int) * -1) (show e ≠ 0 by omega)
    have a1 := Int.emod_lt_of_pos ((k : Int) * -1) he
    generalize ha : (((k : Int) * -1) % e).toNat = a
    have hA : ((a : Nat) : Int) = ((k : Int) * -1) % e := by omega
    have ha2 : a < e.toNat := by omega
    have q := ex_ok t ht
    unfold exB at q
    rw [List.all_eq_true] at q
    have q1 := q a (List.mem_range.mpr (by rw [et]; exact ha2))
    rw [List.all_eq_true] at q1
    have q2 := of_decide_eq_true (q1 i (List.mem_range.mpr (by rw [← ep]; exact hi)))
    rw [et] at q2
    have q3 : sm ((polyL e).length - 1) (fun m => Tz ((polyL e).length - 1) (polyL e) m a * Tz ((polyL e).length - 1) (polyL e) i (((m : Int) * -1) % e).toNat) = Tz ((polyL e).length - 1) (polyL e) i (((a : Int) * -1) % e).toNat := by
      have tc : ∀ {j b : Nat}, j < (polyL e).length - 1 → b < e.toNat → (t.2.2.getD j []).getD b 0 = Tz ((polyL e).length - 1) (polyL e) j b := by
        intro j b hj hb
        rw [ep] at hj ⊢
        exact tab_col ht hj (by rw [et]; omega)
      have md : ∀ x : Int, (x % e).toNat < e.toNat := fun x => by
        have := Int.emod_nonneg x (show e ≠ 0 by omega)
        have := Int.emod_lt_of_pos x he
        omega
      rw [← tc hi (md _), ← q2, ← ep]
      exact sm_congr fun m hm => by rw [tc hm ha2, tc hi (md _)]
    have hb : (((a : Int) * -1) % e).toNat = k := by
      rw [hA, Int.mul_neg, Int.mul_one, Int.mul_neg, Int.mul_one]
      have : (-(-(k : Int) % e)) % e = (k : Int) % e := by
        rw [Int.neg_emod_eq_sub_emod]
        rw [Int.sub_emod_emod]
        rw [Int.sub_neg]
        rw [Int.add_comm, Int.add_emod_right]
      rw [this, Int.emod_eq_of_lt (by omega) (by omega)]
      omega
    rw [q3, hb, T_lo (by omega)]
    split <;> simp
  rw [sm_congr key, sm_delta, if_pos (by omega)]
end K09

/-! Exchanged numbers stay in lowest terms. -/
namespace K09
open PySem PySem.Spec PyProof.Rows L2
theorem lowC_gr {d : Int} : ∀ (tops : List Int) (b : Int), d ∣ b → (∀ t ∈ tops, d ∣ t) → d ∣ lowC tops b
  | [], _, h, _ => h
  | t :: ts, b, h, k => by
    show d ∣ lowC ts (gcdI b t)
    refine lowC_gr ts _ ?_ fun u hu => k u (List.mem_cons_of_mem _ hu)
    unfold gcdI
    exact Int.dvd_coe_gcd h (k t List.mem_cons_self)
theorem sm_dvd {d : Int} {f : Nat → Int} : ∀ n : Nat, (∀ i, i < n → d ∣ f i) → d ∣ sm n f
  | 0, _ => Int.dvd_zero d
  | n + 1, h => Int.dvd_add (sm_dvd n fun i hi => h i (by omega)) (h n (by omega))
theorem dvd_getD {d : Int} {v : List Int} (h : ∀ t ∈ v, d ∣ t) (k : Nat) : d ∣ v.getD k 0 := by
  rw [List.getD_eq_getElem?_getD]
  cases q : v[k]? with
  | none => exact Int.dvd_zero d
  | some x => exact h x (List.mem_of_getElem? q)
theorem er_p2 : ∀ e ∈ ER, 2 ≤ (polyL e).length := fun e h => (er_poly e h).1
theorem exT_dvd {e d : Int} (h : e ∈ ER) {v : List Int} (hv : ∀ t ∈ v, d ∣ t) : ∀ t ∈ exT e (-1) v, d ∣ t := by
  have hp := er_p2 e h
  have eb := er_bd e h
  intro t ht
  obtain ⟨i, hi, rfl⟩ := List.getElem_of_mem ht
  have e1 : (exT e (-1) v)[i] = (exT e (-1) v).getD i 0 := by rw [List.getD_eq_getElem?_getD, List.getElem?_eq_getElem hi]; rfl
  rw [exT_len (by omega)] at hi
  rw [e1, exT_co (by omega) (by omega) hi]
  exact sm_dvd _ fun k _ => Int.dvd_mul_of_dvd_left (dvd_getD hv k)
theorem low_one_of {n : Num} (hp : 1 ≤ n.2) (hl : lowL n.1 n.2 = n) : lowC n.1 n.2 = 1 := by
  have g := lowC_pos n.1 n.2 hp
  have d := (lowC_dvd n.1 n.2).1
  have e : n.2 / lowC n.1 n.2 = n.2 := congrArg Prod.snd hl
  have m := Int.ediv_mul_cancel d
  rw [e] at m
  exact icancel hp (by rw [m, Int.mul_one])
/-- an exchanged number is in lowest terms -/
theorem ex_low {e : Int} (h : e ∈ ER) {n : Num} (c : NumC ((polyL e).length - 1) n) : lowL (exT e (-1) n.1) n.2 = exL e n (-1) := by
  have g1 := low_one_of c.pos c.low
  have gp := lowC_pos (exT e (-1) n.1) n.2 c.pos
  have gd := lowC_dvd (exT e (-1) n.1) n.2
  have back := exT_dvd h gd.2
  rw [exT_exT h c.len] at back
  have q := lowC_gr n.1 n.2 gd.1 back
  rw [g1] at q
  have g : lowC (exT e (-1) n.1) n.2 = 1 := Int.le_antisymm (Int.le_of_dvd (by decide) q) gp
  unfold lowL exL
  rw [g, Int.ediv_one]
  refine Prod.ext ?_ rfl
  conv => rhs; rw [← List.map_id (exT e (-1) n.1)]
  exact List.map_congr_left fun t _ => Int.ediv_one t
theorem numC_ex {e : Int} (h : e ∈ ER) {n : Num} (c : NumC ((polyL e).length - 1) n) : NumC ((polyL e).length - 1) (exL e n (-1)) :=
  ⟨exT_len (by have := er_p2 e h; omega), c.pos, by rw [← ex_low h c, low_low c.pos]⟩
theorem ex_ex {e : Int} (h : e ∈ ER) {n : Num} (c : NumC ((polyL e).length - 1) n) : exL e (exL e n (-1)) (-1) = n := by
  show (exT e (-1) (exT e (-1) n.1), n.2) = n
  rw [exT_exT h c.len]
def trL (r : List Int) (ns : List Num) : List Num := ns.map fun n => exL (ordL r) n (-1)
/-- a row turned about twice -/
theorem tr_tr {r : List Int} (hr : r ∈ RR) {ns : List Num} (c : RowC r ns) : trL r (trL r ns) = ns := by
  unfold trL
  rw [List.map_map]
  conv => rhs; rw [← List.map_id ns]
  exact List.map_congr_left fun n hn => ex_ex (ord_er r hr) (c.num n hn)
theorem rowC_tr {r : List Int} (hr : r ∈ RR) {ns : List Num} (c : RowC r ns) : RowC r (trL r ns) := by
  refine ⟨by unfold trL; rw [List.length_map, c.len], fun n hn => ?_⟩
  obtain ⟨m, hm, rfl⟩ := List.mem_map.mp hn
  exact numC_ex (ord_er r hr) (c.num m hm)
end K09

/-! Places added, place_sum, place_times, pairing. -/
namespace K09
open PySem PySem.Spec PyProof.Rows L2
def sumP (r x y : List Int) : List Int := (List.range r.length).map fun k => (x.getD k 0 + y.getD k 0) % r.getD k 0
section
variable {P : Program} {w : World} {K : PySem.W.Frag} {mg : Str → Option Value} {base : Heap} {f f1 f2 f3 f4 f5 C fI fM : Addr} {fd fd1 fd2 fd3 fd4 fd5 fdI : FuncData}
def spAdd (K : PySem.W.Frag) : Sp := fun vs H Q _ => ∃ (v u z : V) (r p q : List Int), vs = [v, u, z] ∧ TupI K H v r ∧ TupI K H u p ∧ TupI K H z q ∧ r ∈ RR ∧ p.length = r.length ∧ q.length = r.length ∧ ∀ t H', Same H H' → H t = none → H' t = some (.tup ((sumP r p q).map V.int)) → Q (.ref t) H'
theorem scAdd : FnScope ["rings", "one", "other", "k"] ["rings", "one", "other"] (defScope sAdd) := ⟨rfl, rfl, rfl, by decide +kernel, rfl, by decide +kernel, by decide +kernel⟩
theorem ok_add (F : FnP K "added" sAdd f fd) (B : Bl mg) : FnOk P w K mg base CX0 1 f fd ["rings", "one", "other"] (spAdd K) := by
  refine F.ok scAdd (fun vs H Q E h => ?_) (fun cdv A outer s H vs Q E hr h => ?_)
  · obtain ⟨v, u, z, r, p, q, rfl, _⟩ := h
    rfl
  · obtain ⟨v, u, z, r, p, q, rfl, ⟨a, rfl, ha⟩, ⟨b, rfl, hb⟩, ⟨c, rfl, hc⟩, h14, hl, hl2, k⟩ := h
    refine ⟨_, PSs.nox (pss_one (ps_ret (pe_callTy call_tuple_of (by rfl) (B "tuple" (by decide +kernel)) (by decide +kernel) (pa_cons
      (pe_lc (own := [("k", 3)]) (g := gName 3) (tt := tYes) (te := tOp rMod (tOp (rI0 fun i j => .int (i + j)) (tOp (rIxT K) (tVar 1) (tVar 3)) (tOp (rIxT K) (tVar 2) (tVar 3))) (tOp (rIxT K) (tVar 0) (tVar 3))) rfl scAdd.nd (pi_range1 rfl (B "range" (by decide +kernel)) (pa_cons (pe_callB call_len_seq (by rfl) (B "len" (by decide +kernel)) PySem.boot_len (pa_cons (pv 0) pa_nil)) pa_nil))
        (blkOk_by (own := [("k", 3)]) (N := ["rings", "one", "other", "k"]) (sc := defScope sAdd) (by decide +kernel)) (fun _ _ _ _ _ => pg_name (i := 3) scAdd.nd rfl (Or.inl rfl)) (fun _ _ _ _ _ => pts_nil) (fun _ _ _ _ _ => pe_op op_mod (pe_op op_add (pe_ix ix_tup (pv 1) (pv 3) (fun _ _ => rfl)) (pe_ix ix_tup (pv 2) (pv 3) (fun _ _ => rfl))) (pe_ix ix_tup (pv 0) (pv 3) (fun _ _ => rfl)))) pa_nil)))), ?_⟩
    have hn := rr_len r h14
    refine ⟨_, rfl, a, _, rfl, .inr ha, _, rfl, by rw [List.length_map]; omega, by rw [List.length_map]; omega, fun D hD => ?_⟩
    have en : ((r.map V.int).length : Int).toNat = r.length := by rw [List.length_map]; omega
    rw [en]
    refine lc_range (lo := 0) (n := r.length) (fun i H2 => Same H H2 ∧ H2 D = some (.lst (((List.range i).map fun k => (p.getD k 0 + q.getD k 0) % r.getD k 0).map V.int))) ⟨same_upd hD, upd_same⟩ ?_ ?_
    · rintro i H2 hi ⟨s2, h2⟩
      have g := rr_get h14 hi
      have e0 : (0 : Int) + (i : Int) = (i : Int) := Int.zero_add _
      refine ⟨rfl, _, rfl, _, rfl, b, _, _, _, rfl, rfl, s2.tup hb, by rw [e0]; exact atI_nat (getD_of (by omega)), _, rfl, _, rfl, c, _, _, _, rfl, rfl, s2.tup hc, by rw [e0]; exact atI_nat (getD_of (by omega)), _, _, rfl, rfl, _, rfl, _, rfl, a, _, _, _, rfl, rfl, s2.tup ha, by rw [e0]; exact atI_nat (getD_of hi), _, _, rfl, rfl, by omega, ?_⟩
      refine ⟨_, h2, sl_lt (by rw [List.length_map, List.length_map, List.length_range]; omega), same_at s2 hD, ?_⟩
      rw [upd_same, List.range_succ, List.map_append, List.map_append]
      rfl
    · rintro H2 ⟨s2, h2⟩
      refine ⟨D, _, rfl, .inl ⟨SqL.of h2, fun t ht => ?_⟩⟩
      exact k t _ (same_new s2 ht) (s2.free ht) upd_same
def spPairing (K : PySem.W.Frag) : Sp := fun vs H Q _ => ∃ (v u z : V) (r p q : List Int), vs = [v, u, z] ∧ TupI K H v r ∧ TupI K H u p ∧ TupI K H z q ∧ r ∈ RR ∧ p ∈ placesL r ∧ q ∈ placesL r ∧ ∀ H', Same H H' → Q (.int (pairL r (ordL r) p q)) H'
theorem scPairing : FnScope ["rings", "place", "label"] ["rings", "place", "label"] (defScope sPairing) := ⟨rfl, rfl, rfl, by decide +kernel, rfl, by decide +kernel, by decide +kernel⟩
theorem ok_pairing (F : FnP K "pairing" sPairing f fd) (B : Bl mg) (F1 : FnP K "check_place" sChkP f1 fd1) (g1 : mg "check_place" = some (.ref f1)) (G1 : FnOk P w K mg base CX0 5 f1 fd1 ["rings", "place"] (spChkP K)) (F2 : FnP K "order_of" sOrdOf f2 fd2) (g2 : mg "order_of" = some (.ref f2)) (G2 : FnOk P w K mg base CX0 5 f2 fd2 ["rings"] (spOrder K))
    (F3 : FnP K "paired" sPaired f3 fd3) (g3 : mg "paired" = some (.ref f3)) : FnOk P w K mg base CX0 6 f fd ["rings", "place", "label"] (spPairing K) := by
  have G3 : FnOk P w K mg base CX0 1 f3 fd3 ["rings", "order", "place", "label"] (spPaired K) := ok_paired F3 B
  have b1 : Binds K fd1 ["rings", "place"] [] := F1.bindsN fun _ _ _ _ _ _ us hl => match us, hl with | [_, _], _ => rfl
  have b2 : Binds K fd2 ["rings"] [] := F2.bindsN fun _ _ _ _ _ _ us hl => match us, hl with | [_], _ => rfl
  have b3 : Binds K fd3 ["rings", "order", "place", "label"] [] := F3.bindsN fun _ _ _ _ _ _ us hl => match us, hl with | [_, _, _, _], _ => rfl
  refine F.ok scPairing (fun vs H Q E h => ?_) (fun cdv A outer s H vs Q E hr h => ?_)
  · obtain ⟨v, u, z, r, p, q, rfl, _⟩ := h
    rfl
  · obtain ⟨v, u, z, r, p, q, rfl, ha, hb, hc, h14, hp, hq, k⟩ := h
    refine ⟨_, PSs.nox (pss_cons (ps_expr (pe_call G1 hr rfl g1 F1.kp b1 .nil pass0 (pa_cons (pv 0) (pa_cons (pv 1) pa_nil))))
      (pss_cons (ps_expr (pe_call G1 hr rfl g1 F1.kp b1 .nil pass0 (pa_cons (pv 0) (pa_cons (pv 2) pa_nil))))
      (pss_one (ps_ret (pe_call G3 (hr.mono (by decide)) rfl g3 F3.kp b3 .nil pass0 (pa_cons (pv 0) (pa_cons (pe_call G2 hr rfl g2 F2.kp b2 .nil pass0 (pa_cons (pv 0) pa_nil)) (pa_cons (pv 1) (pa_cons (pv 2) pa_nil))))))))), ?_⟩
    refine ⟨_, rfl, _, rfl, _, _, r, p, rfl, ha, hb, h14, hp, fun H1 s1 => ?_⟩
    refine ⟨_, rfl, _, rfl, _, _, r, q, rfl, s1.tupI ha, s1.tupI hc, h14, hq, fun H2 s2 => ?_⟩
    have t := s1.trans s2
    refine ⟨_, rfl, _, rfl, _, r, rfl, t.tupI ha, h14, fun H3 s3 => ?_⟩
    have t3 := t.trans s3
    have eb := er_bd _ (er_in r h14)
    exact ⟨_, rfl, _, rfl, _, _, _, r, p, q, ordL r, rfl, t3.tupI ha, t3.tupI hb, t3.tupI hc, h14, rr_whole h14 hp, rr_whole h14 hq, rr_it r h14 p hp, rr_it r h14 q hq, by omega, by omega, k H3 t3⟩
end
end K09

/-! Places moved and mirrored are all places, each once. -/
namespace K09
open PySem PySem.Spec PyProof.Rows L2
def movP (r s : List Int) : List (List Int) := (placesL r).map fun x => sumP r x s
def mirP (r : List Int) : List (List Int) := (placesL r).map fun x => repL r x (-1)
theorem mov_nd : ∀ r ∈ RR, ∀ s ∈ placesL r, (movP r s).Nodup := by decide +kernel
theorem mov_all : ∀ r ∈ RR, ∀ s ∈ placesL r, ∀ x ∈ placesL r, x ∈ movP r s := by decide +kernel
theorem mir_nd : ∀ r ∈ RR, (mirP r).Nodup := by decide +kernel
theorem mir_all : ∀ r ∈ RR, ∀ x ∈ placesL r, x ∈ mirP r := by decide +kernel
end K09

/-! A dict comprehension whose keys are tuples of ints (after HandS.DictComp). -/
namespace K09
open PySem PySem.Spec PyProof.Rows L2
theorem d_dictSetT {X : Cx} {pins : List (Addr × Obj)} {σ : L2.St} {H : Hp} {s : Shared} {E : Value → Shared → Prop} {D kb : Addr} {kvs : List (List Key × V)} {k : List Key} {v : V} {u r : Value} {Q : Unit → Shared → Prop} (hu : X.A.units + 1 < cLine) (I : Inv X pins σ H s) (hD : H D = some (.dT kvs)) (eb : H kb = some (.tup (k.map kV))) (hz : kvs.length < sizeLine)
    (ry : RelV (.ref kb) u) (rv : RelV v r) (h : ∀ s', Inv X pins σ (upd H D (.dT (putK kvs k v))) s' → Q () s') : wpAny (model X.prog X.w) X.A (dictSet D u r) Q E s := by
  cases (show u = Value.ref kb from ry)
  obtain ⟨z, hd, xs, rel, dd⟩ := dt_of I.hok hD
  have hzv : xs.length ≤ sizeLine := by rw [← Paired.length rel]; exact z
  have hl : (putK kvs k v).length ≤ sizeLine := by have := length_putK kvs k v; omega
  refine wpAny_dictSet_heap (hsz := hzv) (show X.A.units < cLine from Nat.lt_of_succ_lt hu) (key_of I.hok eb) dd fun h' dd' hs => h _ ?_
  obtain ⟨q, es, ep, hq, h2, h3, h4, _, h5⟩ := dd'
  refine d_write I (by rw [hD]; exact True.intro) hs ⟨q, hq⟩ ⟨hl, hd, _, (rel.put k eb rv).keeps fun c ys ec => ?_, q, es, ep, hq, h2, h3, h4, h5⟩
  rw [upd_ne (ne_of ec hD (fun z => nomatch z))]
  exact ec
section
variable {X : Cx}
/-- {k: v for target in iter if ..}, keys tuples of ints and texts: D the new dict -/
def tDcT (wi : TI) (g : TG) (tt : TT) (tk tv : TE) (vs : List Nat) : TE := fun σ H Q => wi σ H fun J H1 => ∀ D, H1 D = none → ∃ W : Nat → Nat → Hp → Prop, (∃ m, W 0 m (upd H1 D (.dT []))) ∧ ∀ i m H, W i m H →
  (J.stop i H ∧ Q (.ref D) H) ∨ (J.go i H ∧ ∃ Nx : Hp → Prop, (∀ H', Nx H' → ∃ m', m' < m ∧ W (i + 1) m' H') ∧ ∀ x H', J.yld i H x H' → g x (wipe σ vs) H' fun σ2 H2 => wipe σ2 vs = wipe σ vs ∧ tt σ2 H2 fun b H3 =>
    if b = true then tk σ2 H3 fun y H4 => tv σ2 H4 fun z H5 => ∃ kvs k b, y = .ref b ∧ H5 b = some (.tup (k.map kV)) ∧ H5 D = some (.dT kvs) ∧ kvs.length < sizeLine ∧ Nx (upd H5 D (.dT (putK kvs k z))) else Nx H3)
theorem dcT_core {pins : List (Addr × Obj)} {s : Shared} {σ : L2.St} {H : Hp} {Q : VK} {kx vx tg iter : Expr} {ifs : List Expr} {scope : Scope} {own : List (Str × Nat)} {pos pos' : Pos} {wi : TI} {g : L2.TG} {tt : L2.TT} {tk tv : TE} {use : Option (Value → Sem Unit)} {Qf : Value → Shared → Prop}
    (hc : X.calm = true) (hu : X.A.units + 1 < cLine) (hN : X.N.Nodup) (I : Inv X pins σ H s) (hi : PI X tg iter wi) (ok : BlkOk X.N X.env.scope scope own)
    (hg : ∀ (s : Shared) (H : Hp) (C : Addr) (cl : List (Str × Addr)) (fp : List Addr), PG (X.blk s H scope (compEnvC scope cl C X.env) fp) tg g) (ht : ∀ (s : Shared) (H : Hp) (C : Addr) (cl : List (Str × Addr)) (fp : List Addr), PTs (X.blk s H scope (compEnvC scope cl C X.env) fp) ifs tt)
    (hk : ∀ (s : Shared) (H : Hp) (C : Addr) (cl : List (Str × Addr)) (fp : List Addr), PE (X.blk s H scope (compEnvC scope cl C X.env) fp) kx tk)
    (he : ∀ (s : Shared) (H : Hp) (C : Addr) (cl : List (Str × Addr)) (fp : List Addr), PE (X.blk s H scope (compEnvC scope cl C X.env) fp) vx tv) (hs : ∀ x, foldedSetIterable iter X.env x = pure x)
    (h : tDcT wi g tt tk tv (own.map (·.2)) σ H Q)
    (hRR : ∀ D C s' m H', Inv X pins σ H' s' → Q (.ref D) H' → s'.heap.Ns C m → FpOk X pins H' C → compPost (model X.prog X.w) X.A X.xe use Qf (.ref D) C (.ok .next) s') :
    wpAny (model X.prog X.w) X.A (comprehension (.DictComp kx vx [⟨tg, iter, ifs, 0⟩] scope pos) scope X.env pos' newDict false (eval iter X.env) use) Qf X.xe s := by
  have hfree : ∀ y ∈ scope.names, y.2 = .free → ∃ c, X.env.cells.lookup y.1 = some c := fun y hy e => by
    rcases ok.free y hy e with k | k
    · exact I.ok.has _ (.inl k)
    · exact I.ok.has _ (.inr k)
  refine wpAny_comprehension_free (use := use) rfl hs (closure_ok hfree) ok.kind (fun y hy e => by rw [ok.uniq y hy, e])
    (thn (hi.run pins s σ H _ I h) fun xv s1 hx => thn hx fun itv s2 h2 => ?_)
  obtain ⟨it, fp, tn, J, H2, e, I2, T, st2, f2, q⟩ := h2
  subst e
  refine wpAny_newObj_type (newEnv_comp ?_)
  generalize hD : s2.heap.objs.size = D
  have hDn : H2 D = none := I2.hok.fresh (Nat.le_of_eq hD)
  obtain ⟨W, ⟨m0, w0⟩, turn⟩ := q D hDn
  -- the new list
  generalize hs3 : ({ s2 with heap := s2.heap.push { cls := .type "dict", data := .dict #[] } } : Shared) = s3
  have I3 : Inv X pins σ (upd H2 D (.dT [])) s3 := by
    rw [← hs3]
    refine I2.laid (t' := s2.toks) (fun b o e => Heap.get?_push_of_some _ e) (Nat.le_of_eq hD) ?_
    rw [← hD]
    exact dt_empty s2.heap I2.big
  have h3 : s3.heap = s2.heap.push { cls := .type "dict", data := .dict #[] } := by rw [← hs3]
  have sz : ∀ b ∈ fp, b < s2.heap.objs.size := fun b hb => by
    obtain ⟨o, e, _⟩ := T.obj _ _ st2 b hb
    exact Heap.lt_size e
  have f3 : ∀ b ∈ fp, FpOk X pins (upd H2 D (.dT [])) b ∧ b < s3.heap.objs.size := fun b hb => by
    have hlt := sz b hb
    refine ⟨⟨?_, (f2 b hb).2⟩, by rw [h3, Heap.size_push]; exact Nat.lt_succ_of_lt hlt⟩
    rw [upd_ne (by rw [← hD]; exact Nat.ne_of_lt hlt)]
    exact (f2 b hb).1
  have st3 : tn 0 s3.heap := T.keep _ _ _ st2 fun b _ o e => by rw [h3]; exact Heap.get?_push_of_some _ e
  have I4 := block_start I3 ok hN f3
  have pg := hg s3 (upd H2 D (.dT [])) s3.heap.objs.size (cellsFrom (s3.heap.objs.size + 1) scope.names (cloFrom X.env.cells scope.names [])) fp
  have pt := ht s3 (upd H2 D (.dT [])) s3.heap.objs.size (cellsFrom (s3.heap.objs.size + 1) scope.names (cloFrom X.env.cells scope.names [])) fp
  have pk := hk s3 (upd H2 D (.dT [])) s3.heap.objs.size (cellsFrom (s3.heap.objs.size + 1) scope.names (cloFrom X.env.cells scope.names [])) fp
  have pe := he s3 (upd H2 D (.dT [])) s3.heap.objs.size (cellsFrom (s3.heap.objs.size + 1) scope.names (cloFrom X.env.cells scope.names [])) fp
  show codeAny _ _ (.compStart (.DictComp kx vx [⟨tg, iter, ifs, 0⟩] scope pos) 0 (.ref it) (.ref D) (compEnvC scope (cellsFrom (s3.heap.objs.size + 1) scope.names (cloFrom X.env.cells scope.names [])) s3.heap.objs.size X.env)) (compPost (model X.prog X.w) X.A X.xe use Qf (.ref D) s3.heap.objs.size) { s3 with heap := pushCells (s3.heap.push { cls := .type "dict", data := .dict #[] }) scope.names }
  have nfp : ∀ b ∈ fp, (upd H2 D (.dT [])) b = none := fun b hb => (f3 b hb).1.1
  generalize hce : compEnvC scope (cellsFrom (s3.heap.objs.size + 1) scope.names (cloFrom X.env.cells scope.names [])) s3.heap.objs.size X.env = ce at I4 pg pt pk pe ⊢
  have cL : ce.locals = s3.heap.objs.size := by subst hce; rfl
  generalize hH3 : upd H2 D (.dT []) = H3 at I3 I4 pg pt pk pe w0 nfp f3
  generalize hs4 : ({ s3 with heap := pushCells (s3.heap.push { cls := .type "dict", data := .dict #[] }) scope.names } : Shared) = s4 at I4 ⊢
  have st4 : tn 0 s4.heap := T.keep _ _ _ st3 fun b _ o e => by rw [← hs4]; exact pushCells_keeps _ _ _ _ (Heap.get?_push_of_some _ e)
  have stat : ∀ {σ' : L2.St} {H' : Hp} {s' : Shared}, Inv (X.blk s3 H3 scope ce fp) [] σ' H' s' → (∀ b ∈ fp, H' b = none) → ∀ b ∈ fp, FpOk (X.blk s3 H3 scope ce fp) [] H' b := fun {σ' H' s'} I' hn b hb =>
    ⟨hn b hb, (I'.ok.exf b hb).1, I'.ok.exfs b hb, .inl hb, fun x c e => (I'.ok.exf b hb).2 x c e, fun p hp => absurd (show p ∈ ([] : List (Addr × Obj)) ++ [] from hp) (by simp)⟩
  have loop : codeAny (model X.prog X.w) X.A (.compLoop (.DictComp kx vx [⟨tg, iter, ifs, 0⟩] scope pos) 0 (.ref it) (.ref D) ce) (compPost (model X.prog X.w) X.A X.xe use Qf (.ref D) s3.heap.objs.size) s4 := by
    refine compLoop_anyD (fun n s' => ∃ i H', Inv (X.blk s3 H3 scope ce fp) [] (wipe σ (own.map (·.2))) H' s' ∧ tn i s'.heap ∧ (∀ b ∈ fp, H' b = none) ∧ W i n H') ?_ m0 ⟨0, H3, I4, st4, nfp, w0⟩
    rintro n s5 ⟨i, H5, I5, st5, n5, w5⟩
    rcases turn i n H5 w5 with ⟨stop, qq⟩ | ⟨go, Nx, hNx, step⟩
    · have td := T.done (X.blk s3 H3 scope ce fp) rfl rfl rfl hc i [] s5 _ H5 (fun _ _ => False) I5 (stat I5 n5) st5 stop
      refine thnF td fun r s6 ⟨hr, I6⟩ => ?_
      subst hr
      -- back in the def's context
      have I7 : Inv X pins σ H5 s6 := I3.call' (ch := fp) I6.os I6.base I6.hok I6.bare fun b hb => ⟨(f3 b hb).1.2.2.2.1, (f3 b hb).1.2.1, (f3 b hb).1.2.2.2.2.1, (f3 b hb).1.2.2.2.2.2⟩
      have nC : H5 s3.heap.objs.size = none := by
        have z : H5 ce.locals = none := I6.free
        rw [cL] at z
        exact z
      obtain ⟨m, hn, _⟩ := I6.loc
      have hn : s6.heap.Ns ce.locals m := hn
      rw [cL] at hn
      exact hRR D s3.heap.objs.size s6 m H5 I7 qq hn (I3.fpOk (Nat.le_refl _) nC)
    · have ti := T.item (X.blk s3 H3 scope ce fp) rfl rfl rfl hc i [] s5 _ H5 (fun _ _ => False) I5 (stat I5 n5) st5 go
      refine thnF ti fun r s6 ⟨u, hr, h6⟩ => ?_
      subst hr
      refine thnF h6 fun _ s7 ⟨x, H7, I7, r7, y7, st7, n7⟩ => ?_
      have I7' := I7.pinned (stat I7 n7) (T.obj _ _ st7)
      refine thnF (pg.run _ s7 _ H7 x u _ I7' r7 (step x H7 y7)) fun _ s8 ⟨σ8, H8, I8, hw8, q8⟩ => ?_
      refine thnF (pt.run _ s8 σ8 H8 _ I8 q8) fun b s9 ⟨H9, I9, q9⟩ => ?_
      -- the turn's end
      have fin : ∀ {s' : Shared} {H' : Hp}, Inv (X.blk s3 H3 scope ce fp) ([] ++ pinsAt fp s7.heap) σ8 H' s' → Nx H' → ∃ m, m < n ∧ ∃ i H', Inv (X.blk s3 H3 scope ce fp) [] (wipe σ (own.map (·.2))) H' s' ∧ tn i s'.heap ∧ (∀ b ∈ fp, H' b = none) ∧ W i m H' := fun {s' H'} I' nx => by
        obtain ⟨m', hm, w'⟩ := hNx H' nx
        have pin' : ∀ b ∈ fp, ∀ o, s7.heap.get? b = some o → s'.heap.get? b = some o ∧ H' b = none := fun b hb o e =>
          let z := I'.pin (b, o) (List.mem_append_right _ (List.mem_append_right _ (mem_pinsAt hb e)))
          ⟨z.1, z.2.1⟩
        have hl : (wipe σ (own.map (·.2))).length = σ8.length := by rw [← hw8, wipe_length]
        refine ⟨m', hm, i + 1, H', (I'.unpinned (pins := [])).weak hl (fun j v e => ?_), T.keep _ _ _ st7 fun b hb o e => (pin' b hb o e).1, fun b hb => ?_, w'⟩
        · rw [← hw8] at e
          exact (wipe_some e).1
        · obtain ⟨o, e, _⟩ := T.obj _ _ st7 b hb
          exact (pin' b hb o e).2
      cases b with
      | false =>
        simp only [Bool.false_eq_true, if_false] at q9 ⊢
        exact fin I9 q9
      | true =>
        simp only [if_true] at q9 ⊢
        refine thnF (pk.run _ s9 σ8 H9 _ I9 q9) fun z s10 ⟨yk, H10, I10, r10, q10⟩ => ?_
        refine thnF (pe.run _ s10 σ8 H10 _ I10 q10) fun z2 s11 ⟨yv, H11, I11, r11, kvs, k, kb, ek, hkb, hD11, hz11, nx⟩ => ?_
        subst ek
        exact d_dictSetT (X := X.blk s3 H3 scope ce fp) hu I11 hD11 hkb hz11 r10 r11 fun s12 I12 => fin I12 nx
  exact codeAny_compStart_dict loop (T.self X.A 0 _ _ _ st4 loop)
/-- as a value -/
theorem pe_dcT {kx vx tg iter : Expr} {ifs : List Expr} {scope : Scope} {own : List (Str × Nat)} {pos : Pos} {wi : TI} {g : L2.TG} {tt : L2.TT} {tk tv : TE} (hc : X.calm = true) (hu : X.A.units + 1 < cLine) (hN : X.N.Nodup) (hi : PI X tg iter wi) (ok : BlkOk X.N X.env.scope scope own)
    (hg : ∀ (s : Shared) (H : Hp) (C : Addr) (cl : List (Str × Addr)) (fp : List Addr), PG (X.blk s H scope (compEnvC scope cl C X.env) fp) tg g) (ht : ∀ (s : Shared) (H : Hp) (C : Addr) (cl : List (Str × Addr)) (fp : List Addr), PTs (X.blk s H scope (compEnvC scope cl C X.env) fp) ifs tt)
    (hk : ∀ (s : Shared) (H : Hp) (C : Addr) (cl : List (Str × Addr)) (fp : List Addr), PE (X.blk s H scope (compEnvC scope cl C X.env) fp) kx tk)
    (he : ∀ (s : Shared) (H : Hp) (C : Addr) (cl : List (Str × Addr)) (fp : List Addr), PE (X.blk s H scope (compEnvC scope cl C X.env) fp) vx tv) (hs : ∀ x, foldedSetIterable iter X.env x = pure x := by intro _; rfl) :
    PE X (.DictComp kx vx [⟨tg, iter, ifs, 0⟩] scope pos) (tDcT wi g tt tk tv (own.map (·.2))) := by
  refine ⟨fun pins s σ H Q I h => ?_⟩
  rw [arm_eval_DictComp]
  refine dcT_core hc hu hN I hi ok hg ht hk he hs h fun D C s' m H' I' q hn f => ⟨m, hn, fun h'' sb => ?_⟩
  obtain ⟨f0, f1, f2, f3, f4, f5⟩ := f
  exact ⟨.ref D, H', I'.turned (t' := s'.toks) (fun b o hb e => (sb.2 b hb).trans e) f0 f1 f3 f4 f5, rfl, q⟩
end
section
variable {J : It} {n : Nat} {G : Hp → Prop} {Y : Nat → Hp → V → Hp → Prop}
/-- such a comprehension over any walk -/
theorem dcT_it (w : Walk J n G Y) {g : L2.TG} {tt : L2.TT} {tk tv : TE} {vs : List Nat} {σ : L2.St} {H1 : Hp} {D : Addr} {Qd : Hp → Prop} (Pv : Nat → Hp → Prop) (h0 : Pv 0 (upd H1 D (.dT []))) (hG : ∀ i H, i ≤ n → Pv i H → G H)
    (hs : ∀ i x H H', i < n → Pv i H → Y i H x H' → g x (wipe σ vs) H' fun σ2 H2 => wipe σ2 vs = wipe σ vs ∧ tt σ2 H2 fun b H3 =>
      if b = true then tk σ2 H3 fun y H4 => tv σ2 H4 fun z H5 => ∃ kvs k b, y = .ref b ∧ H5 b = some (.tup (k.map kV)) ∧ H5 D = some (.dT kvs) ∧ kvs.length < sizeLine ∧ Pv (i + 1) (upd H5 D (.dT (putK kvs k z))) else Pv (i + 1) H3) (hd : ∀ H, Pv n H → Qd H) :
    ∃ W : Nat → Nat → Hp → Prop, (∃ m, W 0 m (upd H1 D (.dT []))) ∧ ∀ i m H, W i m H →
      (J.stop i H ∧ Qd H) ∨ (J.go i H ∧ ∃ Nx : Hp → Prop, (∀ H', Nx H' → ∃ m', m' < m ∧ W (i + 1) m' H') ∧ ∀ x H', J.yld i H x H' → g x (wipe σ vs) H' fun σ2 H2 => wipe σ2 vs = wipe σ vs ∧ tt σ2 H2 fun b H3 =>
        if b = true then tk σ2 H3 fun y H4 => tv σ2 H4 fun z H5 => ∃ kvs k b, y = .ref b ∧ H5 b = some (.tup (k.map kV)) ∧ H5 D = some (.dT kvs) ∧ kvs.length < sizeLine ∧ Nx (upd H5 D (.dT (putK kvs k z))) else Nx H3) := by
  refine ⟨fun i m H => m = n - i ∧ i ≤ n ∧ Pv i H, ⟨n, by simp, Nat.zero_le _, h0⟩, ?_⟩
  rintro i m H ⟨rfl, hi, p⟩
  have q := hG i H hi p
  by_cases hlt : i < n
  · refine .inr ⟨w.goes i H hlt q, Pv (i + 1), fun H' p' => ⟨n - (i + 1), by omega, rfl, hlt, p'⟩, fun x H' y => hs i x H H' hlt p (w.yields i H x H' hlt q y)⟩
  · have e : i = n := by omega
    subst e
    exact .inl ⟨w.stops H q, hd H p⟩
end
end K09

/-! Dicts by places; Floor.seats. -/
namespace K09
open PySem PySem.Spec PyProof.Rows L2
/-- a place as a key -/
def kT (x : List Int) : List Key := x.map Sum.inl
theorem kT_inj {x y : List Int} (h : kT x = kT y) : x = y := (List.map_inj_right (fun _ _ e => Sum.inl.inj e)).mp h
theorem kT_V (x : List Int) : (kT x).map kV = x.map V.int := by
  unfold kT
  rw [List.map_map]
  rfl
/-- the dict of these places to these values -/
def tabK (ps : List (List Int)) (vs : List V) : List (List Key × V) := (ps.zip vs).map fun q => (kT q.1, q.2)
theorem tabK_len {ps : List (List Int)} {vs : List V} (h : ps.length = vs.length) : (tabK ps vs).length = ps.length := by
  unfold tabK
  rw [List.length_map, List.length_zip]
  omega
theorem tabK_snoc {ps : List (List Int)} {vs : List V} {x : List Int} {v : V} (h : ps.length = vs.length) (hx : x ∉ ps) : putK (tabK ps vs) (kT x) v = tabK (ps ++ [x]) (vs ++ [v]) := by
  unfold putK
  rw [if_neg]
  · unfold tabK
    rw [List.zip_append h, List.map_append]
    rfl
  · rw [List.any_eq_true]
    rintro ⟨kv, h1, h2⟩
    obtain ⟨q, hq, rfl⟩ := List.mem_map.mp h1
    have e := kT_inj (of_decide_eq_true h2)
    exact hx (e ▸ (List.of_mem_zip hq).1)
theorem tabK_val : ∀ {ps : List (List Int)} {vs : List V} {i : Nat} {x : List Int} {v : V}, ps.Nodup → ps[i]? = some x → vs[i]? = some v → valV (tabK ps vs) (kT x) = some v
  | [], _, i, x, v, _, h, _ => by simp at h
  | p :: ps, [], i, x, v, _, _, h => by simp at h
  | p :: ps, u :: vs, 0, x, v, _, h1, h2 => by
    have e1 : p = x := by simpa using h1
    have e2 : u = v := by simpa using h2
    subst e1 e2
    exact L2.valV_pos (r := tabK ps vs) (p := (kT p, u)) rfl
  | p :: ps, u :: vs, i + 1, x, v, hn, h1, h2 => by
    rw [List.nodup_cons] at hn
    have h1' : ps[i]? = some x := by simpa using h1
    have h2' : vs[i]? = some v := by simpa using h2
    show valV ((kT p, u) :: tabK ps vs) (kT x) = some v
    rw [L2.valV_neg (fun z => hn.1 (by rw [kT_inj z]; exact List.mem_of_getElem? h1'))]
    exact tabK_val hn.2 h1' h2'
theorem take_fresh {ps : List (List Int)} (hn : ps.Nodup) {i : Nat} {x : List Int} (h : ps[i]? = some x) : x ∉ ps.take i := by
  intro hm
  have e := takeS h
  have hn2 : (ps.take (i + 1)).Nodup := List.Sublist.nodup (List.take_sublist _ _) hn
  rw [e, List.nodup_append] at hn2
  exact hn2.2.2 x hm x (List.mem_singleton.mpr rfl) rfl
theorem tabK_take {ps : List (List Int)} {vs : List V} (hn : ps.Nodup) (hl : ps.length = vs.length) {i : Nat} {x : List Int} {v : V} (h1 : ps[i]? = some x) (h2 : vs[i]? = some v) :
    putK (tabK (ps.take i) (vs.take i)) (kT x) v = tabK (ps.take (i + 1)) (vs.take (i + 1)) := by
  rw [takeS h1, takeS h2]
  exact tabK_snoc (by rw [List.length_take, List.length_take, hl]) (take_fresh hn h1)
theorem rr_nd : ∀ r ∈ RR, (placesL r).Nodup := by decide +kernel
def upI (n : Nat) : List V := (List.range n).map fun i => V.int (i : Nat)
end K09

/-! zip of a list and a tuple. -/
namespace K09
open PySem PySem.Spec PyProof.Rows L2
/-- a list and a tuple of one length as they stand at each turn, the items in new pairs -/
def ItZm (K : PySem.W.Frag) (a b : Addr) : It :=
  ⟨fun i H => ∃ (xs ys : List V) (x y : V), SqL K H a xs ∧ SqT K H b ys ∧ xs[i]? = some x ∧ ys[i]? = some y,
    fun i H v H' => ∃ T x y, v = .ref T ∧ H T = none ∧ H' = upd H T (.tup [x, y]) ∧ (∀ xs, SqL K H a xs → xs[i]? = some x) ∧ ∀ ys, SqT K H b ys → ys[i]? = some y,
    fun i H => ∃ xs ys : List V, SqL K H a xs ∧ SqT K H b ys ∧ xs.length = i ∧ ys.length = i⟩
theorem turn_zipM {P : Program} {w : World} {K : PySem.W.Frag} {elts : List Expr} {kk : Nat} {tpos : Pos} {a b z TI TO i1 i2 : Addr} (S : ZipSep2 z TI TO i1 i2 [i1, a] [i2, b]) (na : a ≠ i1) (nb : b ≠ i2) :
    Turn P w K (.Tuple elts kk tpos) (ItZm K a b) [z, TI, TO, i1, i2] z (fun i h => IsZip h z TI TO .none ∧ IsTupOf2 h TI (.ref i1) (.ref i2) ∧ (∃ a1 a2, IsTupOf2 h TO a1 a2) ∧ h.IsListIter i1 a i ∧ h.IsTupleIter i2 b i) where
  mem := by simp
  obj := fun i h st e he => by
    obtain ⟨hz, hTI, ⟨x, y, hTO⟩, ⟨o1, e1, _, d1⟩, ⟨o2, e2, _, d2⟩⟩ := st
    have e' : e = z ∨ e = TI ∨ e = TO ∨ e = i1 ∨ e = i2 := by simpa using he
    rcases e' with q | q | q | q | q
    · rw [q]; exact ⟨_, hz, fun v q => nomatch q⟩
    · rw [q]; exact ⟨_, hTI, fun v q => nomatch q⟩
    · rw [q]; exact ⟨_, hTO, fun v q => nomatch q⟩
    · rw [q]; exact ⟨o1, e1, fun v q => by rw [d1] at q; cases q⟩
    · rw [q]; exact ⟨o2, e2, fun v q => by rw [d2] at q; cases q⟩
  keep := fun i h h' st k => by
    obtain ⟨hz, hTI, ⟨x, y, hTO⟩, h1, h2⟩ := st
    exact ⟨k z (by simp) _ hz, k TI (by simp) _ hTI, ⟨x, y, k TO (by simp) _ hTO⟩, h1.at fun o q => k i1 (by simp) o q, h2.at fun o q => k i2 (by simp) o q⟩
  item := by
    intro X hP hw hK hc i pins s σ H E I hf st hg
    subst hP hw hK
    obtain ⟨hz, hTI, hTO, h1, h2⟩ := st
    obtain ⟨xs, ys, x, y, hqx, hqy, hx, hy⟩ := hg
    obtain ⟨its1, rv1, p1, _⟩ := I.list hqx
    obtain ⟨its2, rv2, p2, _⟩ := I.tuple hqy
    obtain ⟨v1, g1, r1⟩ := rv1.get hx
    obtain ⟨v2, g2, r2⟩ := rv2.get hy
    have hh : X.A.in1.handled = none := I.ok.hd hc
    have G := GoesN.zip2 (prog := X.prog) (w := X.w) (A := X.A) (elts := elts) (x1 := kk) (pos := tpos) S (Draws.list hh i1 a na its1.toArray) (Draws.tuple hh i2 b nb its2.toArray)
    have l1 := ltL g1
    have l2 := ltL g2
    refine G.goes i s (fun u s2 => ∃ x H', Inv X pins σ H' s2 ∧ RelV x u ∧ (ItZm X.K a b).yld i H x H' ∧ _ ∧ ∀ b ∈ [z, TI, TO, i1, i2], H' b = none) E (by simp; omega) ⟨hz, hTI, hTO, ⟨h1, p1.isList⟩, ⟨h2, p2⟩⟩ fun v h' tk hY st2 hk htk => ?_
    obtain ⟨T, w1, w2, rfl, hT, q1, q2, hI⟩ := hY
    obtain ⟨z', TI', TO', ⟨k1, _⟩, ⟨k2, _⟩⟩ := st2
    have e1 : w1 = v1 := by simpa [g1] using q1.symm
    have e2 : w2 = v2 := by simpa [g2] using q2.symm
    subst e1 e2
    have new : ObjOk X.prog X.w (upd H T (.tup [x, y])) h' T (.tup [x, y]) := ⟨by show 2 ≤ sizeLine; decide, [w1, w2], .cons r1 (.cons r2 .nil), hI⟩
    have I1 := I.turnedNew (t' := tk) (ch := [z, TO, i1, i2]) hk (fun b hb => hf b (by simp at hb ⊢; rcases hb with q | q | q | q <;> simp [q])) hT new
    refine ⟨.ref T, _, I1, rfl, ⟨T, x, y, rfl, I.hok.fresh hT, rfl, fun l hl => by rw [I.list_inj hl hqx]; exact hx, fun l hl => by rw [I.tuple_inj hl hqy]; exact hy⟩, ⟨z', TI', TO', k1, k2⟩, fun e he => ?_⟩
    have hlt : e < s.heap.objs.size := by
      have e' : e = z ∨ e = TI ∨ e = TO ∨ e = i1 ∨ e = i2 := by simpa using he
      obtain ⟨_, _, hTO'⟩ := hTO
      obtain ⟨_, f1, _⟩ := h1
      obtain ⟨_, f2, _⟩ := h2
      rcases e' with q | q | q | q | q
      · rw [q]; exact Heap.lt_size hz
      · rw [q]; exact Heap.lt_size hTI
      · rw [q]; exact Heap.lt_size hTO'
      · rw [q]; exact Heap.lt_size f1
      · rw [q]; exact Heap.lt_size f2
    rw [upd_ne (Nat.ne_of_lt (Nat.lt_of_lt_of_le hlt hT))]
    exact (hf e he).1
  done := by
    intro X hP hw hK hc i pins s σ H E I hf st hg
    subst hP hw hK
    obtain ⟨hz, hTI, hTO, h1, h2⟩ := st
    obtain ⟨xs, ys, hqx, hqy, n1, n2⟩ := hg
    obtain ⟨its1, rv1, p1, _⟩ := I.list hqx
    obtain ⟨its2, rv2, p2, _⟩ := I.tuple hqy
    have l1 := rv1.length
    have l2 := rv2.length
    have hh : X.A.in1.handled = none := I.ok.hd hc
    have G := GoesN.zip2 (prog := X.prog) (w := X.w) (A := X.A) (elts := elts) (x1 := kk) (pos := tpos) S (Draws.list hh i1 a na its1.toArray) (Draws.tuple hh i2 b nb its2.toArray)
    have en : min its1.toArray.size its2.toArray.size = i := by simp; omega
    rw [en] at G
    exact G.stops s _ E ⟨hz, hTI, hTO, ⟨h1, p1.isList⟩, ⟨h2, p2⟩⟩ fun h' tk hk htk => I.turnedL (t' := tk) (ch := [z, TO, i1, i2]) hk (fun b hb => hf b (by simp at hb ⊢; rcases hb with q | q | q | q <;> simp [q]))
  self := fun A i s Q E st h => wpAny_pyIter_zip st.1 h
def iZipM (K : PySem.W.Frag) (ta : TA) : TI := fun σ H R => ta σ H fun vs H1 => ∃ a b xs ys, vs = [.ref a, .ref b] ∧ SqL K H1 a xs ∧ SqT K H1 b ys ∧ R (ItZm K a b) H1
theorem pi_zipM {X : Cx} {e e2 : Expr} {ta : TA} {p pos tpos : Pos} {elts : List Expr} {kk : Nat} (hg : Gl X "zip") (hm : X.mg "zip" = none) (ha : PA X [e, e2] ta)
    (hs : starEach [e, e2] X.env = (false, eval e X.env) :: starEach [e2] X.env := by rfl) (hpl : (backTo pos (starEach [e2] X.env)).any (·.1) = false := by rfl) : PI X (.Tuple elts kk tpos) (.Call (.Name "zip" p) [e, e2] [] pos) (iZipM X.K ta) := by
  refine ⟨fun pins s σ H R I h => ?_⟩
  refine Call_ (ld_blt I hg hm PyProof.Rows.boot_zip (PyProof.Rows.callWith_type1 (thn (ha.run pos pins s σ H _ I h) fun us s1 ⟨vs, H1, I1, r1, q1⟩ => ?_) hs hpl))
  obtain ⟨a, b, xs, ys, rfl, hqx, hqy, q⟩ := q1
  cases r1 with
  | cons r rr =>
    cases rr with
    | cons r' rr =>
      cases rr
      cases r
      cases r'
      obtain ⟨its1, rv1, p1, _⟩ := I1.list hqx
      obtain ⟨its2, rv2, p2, _⟩ := I1.tuple hqy
      obtain ⟨o1, ho1, _⟩ := id p1.isList
      obtain ⟨o2, ho2, _⟩ := id p2
      have la := Heap.lt_size ho1
      have lb := Heap.lt_size ho2
      generalize hN : s1.heap.objs.size = N at la lb
      refine zip_begins2 (begins_list a its1.toArray) (begins_tuple b its2.toArray) p1.isList p2 fun h' hz hTI hTO g1 g2 hsz hk => wpAny_pyIter_zip hz ?_
      rw [hN] at hz hTI hTO g1 g2 ⊢
      have I2 : Inv X pins σ H1 { s1 with heap := h' } := I1.kept (t' := s1.toks) hk
      have S : ZipSep2 (N + 4) (N + 2) (N + 3) N (N + 1) [N, a] [N + 1, b] := zip_sep2 (fun d hd => by rw [List.mem_singleton.mp hd]; exact la) (fun d hd => by rw [List.mem_singleton.mp hd]; exact lb)
      refine ⟨N + 4, [N + 4, N + 2, N + 3, N, N + 1], _, _, H1, rfl, I2, turn_zipM S (Nat.ne_of_lt la) (Nat.ne_of_lt (Nat.lt_succ_of_lt lb)), ⟨hz, hTI, ⟨_, _, hTO⟩, ⟨_, g1, rfl, rfl⟩, ⟨_, g2, rfl, rfl⟩⟩, fun d hd => ?_, q⟩
      have hle : s1.heap.objs.size ≤ d := by
        have e' : d = N + 4 ∨ d = N + 2 ∨ d = N + 3 ∨ d = N ∨ d = N + 1 := by simpa using hd
        rw [hN]
        rcases e' with z | z | z | z | z
        · rw [z]; exact Nat.le_add_right _ _
        · rw [z]; exact Nat.le_add_right _ _
        · rw [z]; exact Nat.le_add_right _ _
        · rw [z]; exact Nat.le_refl _
        · rw [z]; exact Nat.le_add_right _ _
      exact ⟨(I1.fpOk hle (I1.hok.fresh hle)).1, (I1.fpOk hle (I1.hok.fresh hle)).2⟩
theorem walk_zipM {K : PySem.W.Frag} {a b : Addr} {xs ys : List V} (h1 : ys.length = xs.length) : Walk (ItZm K a b) xs.length (fun H => SqL K H a xs ∧ SqT K H b ys) (YPair (fun i => xs[i]?) (fun i => ys[i]?)) := by
  refine ⟨fun i _ hi q => ⟨xs, ys, xs[i], ys[i]'(by omega), q.1, q.2, by simp [hi], by simp [show i < ys.length by omega]⟩, fun _ q => ⟨xs, ys, q.1, q.2, rfl, h1⟩, fun i H v H' _ q y => ?_⟩
  obtain ⟨T, x, y, h2, h3, h4, h5, h6⟩ := y
  exact ⟨T, x, y, h2, h3, h4, h5 xs q.1, h6 ys q.2⟩
end K09

/-! Rows laid anew: _laid, moved, mirrored. -/
namespace K09
open PySem PySem.Spec PyProof.Rows L2
/-- the row whose number at each of qs is that of ns, in the order of the places -/
def laidL (r : List Int) (qs : List (List Int)) (ns : List Num) : List Num := (placesL r).map fun x => ns.getD (qs.idxOf x) ([], 1)
theorem laidL_len (r : List Int) (qs : List (List Int)) (ns : List Num) : (laidL r qs ns).length = (placesL r).length := by
  unfold laidL
  rw [List.length_map]
theorem idx_get {qs : List (List Int)} {x : List Int} (h : x ∈ qs) : qs[qs.idxOf x]? = some x := by
  rw [List.getElem?_eq_getElem (List.idxOf_lt_length_iff.mpr h), List.getElem_idxOf]
section
variable {P : Program} {w : World} {K : PySem.W.Frag} {mg : Str → Option Value} {base : Heap} {f f1 f2 f3 f4 f5 C fI fM : Addr} {fd fd1 fd2 fd3 fd4 fd5 fdI : FuncData}
def spLaid (K : PySem.W.Frag) (C : Addr) : Sp := fun vs H Q _ => ∃ (p L : Addr) (u : V) (r : List Int) (ns : List Num) (qs : List (List Int)), vs = [.ref p, u, .ref L] ∧ FloorAt K C H p r ∧ RowAt K H u ns ∧ r ∈ RR ∧ PlL K H L qs ∧ qs.Nodup ∧ qs.length = (placesL r).length ∧ ns.length = qs.length ∧ (∀ x ∈ placesL r, x ∈ qs) ∧
  ∀ v' H', Same H H' → RowAt K H' v' (laidL r qs ns) → Q v' H'
abbrev laN : List Str := ["floor", "row", "places", "found", "place", "item"]
theorem scLaid : FnScope laN ["floor", "row", "places"] (defScope sLaid) := ⟨rfl, rfl, rfl, by decide +kernel, rfl, by decide +kernel, by decide +kernel⟩
theorem ok_laid (F : FnP K "_laid" sLaid f fd) (B : Bl mg) (T : FlT K mg C fI fM) : FnOk P w K mg base CX0 2 f fd ["floor", "row", "places"] (spLaid K C) := by
  refine F.ok scLaid (fun vs H Q E h => ?_) (fun cdv A outer s H vs Q E hr h => ?_)
  · obtain ⟨p, L, u, r, ns, qs, rfl, _⟩ := h
    rfl
  · obtain ⟨p, L, u, r, ns, qs, rfl, hF, hR, h14, hL, nd, ql, nl, all, k⟩ := h
    refine ⟨_, PSs.nox (pss_cons (ps_set (i := 3) scLaid.nd rfl (Or.inr rfl) (pe_dcT (own := [("place", 4), ("item", 5)]) (g := gTup K 2 (gCons (gName 4) (gCons (gName 5) gNil))) (tt := tYes) (tk := tVar 4) (tv := tVar 5) rfl (Nat.lt_of_le_of_lt (Nat.add_le_add_left (by decide) _) hr.units) scLaid.nd
        (pi_zipM rfl (B "zip" (by decide +kernel)) (pa_cons (pv 2) (pa_cons (pv 1) pa_nil))) (blkOk_by (own := [("place", 4), ("item", 5)]) (N := laN) (sc := defScope sLaid) (by decide +kernel))
        (fun _ _ _ _ _ => pg_tup rfl (pgs_cons (pg_name (i := 4) scLaid.nd rfl (Or.inl rfl)) (pgs_cons (pg_name (i := 5) scLaid.nd rfl (Or.inl rfl)) pgs_nil))) (fun _ _ _ _ _ => pts_nil) (fun _ _ _ _ _ => pv 4) (fun _ _ _ _ _ => pv 5)))
      (pss_one (ps_ret (pe_callTy call_tuple_of (by rfl) (B "tuple" (by decide +kernel)) (by decide +kernel) (pa_cons
        (pe_lc (own := [("place", 4)]) (g := gName 4) (tt := tYes) (te := tDGet (tVar 3) (tVar 4)) rfl scLaid.nd (pi_list (pe_fld (pv 0) rfl)) (blkOk_by (own := [("place", 4)]) (N := laN) (sc := defScope sLaid) (by decide +kernel))
          (fun _ _ _ _ _ => pg_name (i := 4) scLaid.nd rfl (Or.inl rfl)) (fun _ _ _ _ _ => pts_nil) (fun _ _ _ _ _ => pe_dget (Nat.lt_of_le_of_lt (Nat.add_le_add_left (by decide) _) hr.units) (pv 3) (pv 4) (fun _ _ => rfl))) pa_nil))))), ?_⟩
    obtain ⟨dx, ar, po, pl, h1, h2, h3, kp, hk1, hk2, hk3⟩ := id hF
    obtain ⟨ks, hl1, hl2, hl3⟩ := id hL
    obtain ⟨q, us, rfl, hq, hN⟩ := id hR
    have h16 := rr_pl0 r h14
    have kl : kp.length = (placesL r).length := by rw [← hk2, List.length_map]
    have sl : ks.length = qs.length := by rw [← hl2, List.length_map]
    have ul : us.length = ns.length := hN.1
    refine ⟨_, rfl, _, rfl, L, q, rf ks, us, rfl, SqL.of hl1, hq, fun D hD => ?_⟩
    refine dcT_it (walk_zipM (K := K) (a := L) (b := q) (xs := rf ks) (ys := us) (by rw [List.length_map]; omega)) (fun i H2 => Same H H2 ∧ H2 D = some (.dT (tabK (qs.take i) (us.take i)))) ⟨same_upd hD, upd_same⟩ (fun i H2 _ ⟨s2, _⟩ => ⟨SqL.of (s2 _ _ hl1), s2.tup hq⟩) ?_ ?_
    · rintro i x H2 H3 hi ⟨s2, h2d⟩ ⟨Tt, a, b, rfl, nT, rfl, e1, e2⟩
      obtain ⟨q', rfl, hq'⟩ := getR e1
      have hq2 : qs[i]? = some q'.2 := by rw [← hl2, List.getElem?_map, hq']; rfl
      have sT : Same H2 (upd H2 Tt (.tup [.ref q'.1, b])) := same_upd nT
      refine ⟨Tt, _, rfl, SqT.of upd_same, rfl, _, _, rfl, _, _, rfl, rfl, ?_⟩
      have il : i < qs.length := ltL hq2
      refine ⟨rfl, _, rfl, _, rfl, _, kT q'.2, q'.1, rfl, ?_, sT _ _ h2d, ?_, ?_⟩
      · rw [kT_V]
        exact sT _ _ (s2 _ _ (hl3.out q' (List.mem_of_getElem? hq')))
      · rw [tabK_len (by rw [List.length_take, List.length_take]; omega)]
        exact sl_lt (by rw [List.length_take]; omega)
      · refine ⟨same_at (s2.trans sT) hD, ?_⟩
        rw [upd_same, tabK_take nd (by omega) hq2 e2]
    · rintro H2 ⟨s2, h2d⟩
      rw [List.length_map, List.take_of_length_le (by omega), List.take_of_length_le (by omega)] at h2d
      refine ⟨_, rfl, p, C, dx, _, _, rfl, s2 _ _ h1, T.cl, T.aL, g_places, pl, rfl, ⟨_, SqL.of (s2 _ _ hk1)⟩, fun D2 hD2 => ?_⟩
      have ll := laidL_len r qs ns
      refine lc_list (K := K) (a := pl) (xs := rf kp) (fun i H3 => Same H2 H3 ∧ ∃ ws, H3 D2 = some (.lst ws) ∧ Nums K H3 ws ((laidL r qs ns).take i)) ⟨same_upd hD2, [], upd_same, by rw [List.take_zero]; exact nums_nil⟩ (fun i H3 _ ⟨s3, _⟩ => SqL.of (s3 _ _ (s2 _ _ hk1))) ?_ ?_
      · rintro i y H3 hi ⟨s3, ws, h3', tn⟩
        obtain ⟨q', rfl, hq'⟩ := getR hi
        have hqm := List.mem_of_getElem? hq'
        have hq2 : (placesL r)[i]? = some q'.2 := by rw [← hk2, List.getElem?_map, hq']; rfl
        have hqp := List.mem_of_getElem? hq2
        have hx := idx_get (all _ hqp)
        have jl := ltL hx
        have eu := List.getElem?_eq_getElem (show qs.idxOf q'.2 < us.length by omega)
        have en := List.getElem?_eq_getElem (show qs.idxOf q'.2 < ns.length by omega)
        have hv := tabK_val nd hx eu
        have s23 := s2.trans s3
        have dg : DGet H3 D (.ref q'.1) (some us[qs.idxOf q'.2]) := by
          rw [← hv]
          exact DGet.t (k := kT q'.2) (s3 _ _ h2d) (by rw [kT_V]; exact s23 _ _ (hk3.out q' hqm))
        refine ⟨rfl, _, rfl, _, rfl, D, _, rfl, dg, ?_⟩
        have ev : (laidL r qs ns)[i]? = some ns[qs.idxOf q'.2] := by
          unfold laidL
          rw [List.getElem?_map, hq2]
          show some (ns.getD (qs.idxOf q'.2) ([], 1)) = _
          rw [List.getD_eq_getElem?_getD, en]
          rfl
        have wl := tn.1
        rw [List.length_take, ll] at wl
        have il := ltL hq2
        refine ⟨ws, h3', sl_lt (by omega), same_at s3 hD2, ws ++ [us[qs.idxOf q'.2]], upd_same, ?_⟩
        rw [takeS ev]
        have num_up : ∀ {v : V} {n : Num}, NumAt K H3 v n → NumAt K (upd H3 D2 (.lst (ws ++ [us[qs.idxOf q'.2]]))) v n := fun ⟨p', t', e', q1, q2⟩ => ⟨p', t', e', sqt_at q1 h3', sqt_at q2 h3'⟩
        exact Nums.snoc ⟨tn.1, fun i v n e1 e2 => num_up (tn.2 i v n e1 e2)⟩ (num_up (s23.num (hN.2 _ _ _ eu en)))
      · rintro H3 ⟨s3, ws, h3', tn⟩
        rw [List.length_map, kl, ← ll, List.take_length] at tn
        refine ⟨D2, ws, rfl, .inl ⟨SqL.of h3', fun p2 hp2 => ?_⟩⟩
        have sp : Same H3 (upd H3 p2 (.tup ws)) := same_upd hp2
        exact k _ _ ((s2.trans s3).trans sp) ⟨p2, ws, rfl, SqT.of upd_same, sp.nums tn⟩
end
end K09

/-! Rows moved and mirrored. -/
namespace K09
open PySem PySem.Spec PyProof.Rows L2
def movL (r s : List Int) (ns : List Num) : List Num := laidL r (movP r s) ns
def mirL (r : List Int) (ns : List Num) : List Num := laidL r (mirP r) ns
section
variable {P : Program} {w : World} {K : PySem.W.Frag} {mg : Str → Option Value} {base : Heap} {f f1 f2 f3 f4 f5 C fI fM : Addr} {fd fd1 fd2 fd3 fd4 fd5 fdI : FuncData}
def spMoved (K : PySem.W.Frag) : Sp := fun vs H Q _ => ∃ (v u z : V) (r s : List Int) (ns : List Num), vs = [v, u, z] ∧ TupI K H v r ∧ RowAt K H u ns ∧ TupI K H z s ∧ r ∈ RR ∧ RowG r ns ∧ s ∈ placesL r ∧ ∀ v' H', Same H H' → RowAt K H' v' (movL r s ns) → Q v' H'
abbrev mvN : List Str := ["rings", "row", "place", "floor", "one"]
theorem scMoved : FnScope mvN ["rings", "row", "place"] (defScope sMoved) := ⟨rfl, rfl, rfl, by decide +kernel, rfl, by decide +kernel, by decide +kernel⟩
theorem ok_moved (F : FnP K "moved" sMoved f fd) (B : Bl mg) (T : FlT K mg C fI fM) (FI : FunD K "__init__" "Floor.__init__" (defArgs sFInit) (defBody sFInit) (defScope sFInit) [] [] fI fdI) (GI : FnOk P w K mg base CX0 3 fI fdI ["self", "rings"] (spFInit K C))
    (F1 : FnP K "check_row" sChkRow f1 fd1) (g1 : mg "check_row" = some (.ref f1)) (G1 : FnOk P w K mg base CX0 7 f1 fd1 ["rings", "row"] (spRow K .non)) (F2 : FnP K "check_place" sChkP f2 fd2) (g2 : mg "check_place" = some (.ref f2)) (G2 : FnOk P w K mg base CX0 5 f2 fd2 ["rings", "place"] (spChkP K))
    (F3 : FnP K "added" sAdd f3 fd3) (g3 : mg "added" = some (.ref f3)) (G3 : FnOk P w K mg base CX0 1 f3 fd3 ["rings", "one", "other"] (spAdd K)) (F4 : FnP K "_laid" sLaid f4 fd4) (g4 : mg "_laid" = some (.ref f4)) (G4 : FnOk P w K mg base CX0 2 f4 fd4 ["floor", "row", "places"] (spLaid K C)) :
    FnOk P w K mg base CX0 8 f fd ["rings", "row", "place"] (spMoved K) := by
  have bI : Binds K fdI ["self", "rings"] [] := FI.bindsN fun _ _ _ _ _ _ us hl => match us, hl with | [_, _], _ => rfl
  have b1 : Binds K fd1 ["rings", "row"] [] := F1.bindsN fun _ _ _ _ _ _ us hl => match us, hl with | [_, _], _ => rfl
  have b2 : Binds K fd2 ["rings", "place"] [] := F2.bindsN fun _ _ _ _ _ _ us hl => match us, hl with | [_, _], _ => rfl
  have b3 : Binds K fd3 ["rings", "one", "other"] [] := F3.bindsN fun _ _ _ _ _ _ us hl => match us, hl with | [_, _, _], _ => rfl
  have b4 : Binds K fd4 ["floor", "row", "places"] [] := F4.bindsN fun _ _ _ _ _ _ us hl => match us, hl with | [_, _, _], _ => rfl
  refine F.ok scMoved (fun vs H Q E h => ?_) (fun cdv A outer s H vs Q E hr h => ?_)
  · obtain ⟨v, u, z, r, sh, ns, rfl, _⟩ := h
    rfl
  · obtain ⟨v, u, z, r, sh, ns, rfl, ⟨a, rfl, ha⟩, hR, ⟨c, rfl, hc⟩, h14, ro, hsh, k⟩ := h
    refine ⟨_, PSs.nox (pss_cons (ps_expr (pe_call G1 hr rfl g1 F1.kp b1 .nil pass0 (pa_cons (pv 0) (pa_cons (pv 1) pa_nil))))
      (pss_cons (ps_expr (pe_call G2 (hr.mono (by decide)) rfl g2 F2.kp b2 .nil pass0 (pa_cons (pv 0) (pa_cons (pv 2) pa_nil))))
      (pss_cons (ps_set (i := 3) scMoved.nd rfl (Or.inl rfl) (pe_make T.mkk GI (hr.mono (by decide)) rfl T.mgC bI .nil pass0 (pa_cons (pv 0) pa_nil)))
      (pss_one (ps_ret (pe_call G4 (hr.mono (by decide)) rfl g4 F4.kp b4 .nil pass0 (pa_cons (pv 3) (pa_cons (pv 1) (pa_cons
        (pe_lc (own := [("one", 4)]) (g := gName 4) (tt := tYes) (te := tCall (spAdd K) [] E0 (tCons (tVar 0) (tCons (tVar 4) (tCons (tVar 2) tNil)))) rfl scMoved.nd (pi_list (pe_fld (pv 3) rfl)) (blkOk_by (own := [("one", 4)]) (N := mvN) (sc := defScope sMoved) (by decide +kernel))
          (fun _ _ _ _ _ => pg_name (i := 4) scMoved.nd rfl (Or.inl rfl)) (fun _ _ _ _ _ => pts_nil) (fun _ _ _ _ _ => pe_call G3 (hr.mono (by decide)) rfl g3 F3.kp b3 .nil pass0 (pa_cons (pv 0) (pa_cons (pv 4) (pa_cons (pv 2) pa_nil))))) pa_nil))))))))), ?_⟩
    have h16 := rr_pl0 r h14
    have lns := ro.ok.len
    refine ⟨_, rfl, _, rfl, _, _, r, ns, rfl, ⟨a, rfl, ha⟩, hR, h14, ro, fun H1 s1 => ?_⟩
    refine ⟨_, rfl, _, rfl, _, _, r, sh, rfl, ⟨a, rfl, s1.tup ha⟩, ⟨c, rfl, s1.tup hc⟩, h14, hsh, fun H2 s2 => ?_⟩
    have s12 := s1.trans s2
    refine ⟨_, rfl, fun p dx np ndx nex => ?_⟩
    have tn : Same H2 (upd (upd H2 dx (.own p)) p (.ins C dx [])) := same_new (same_upd ndx) (by rw [upd_ne (Ne.symm nex)]; exact np)
    refine ⟨p, dx, _, r, rfl, upd_same, ⟨a, rfl, tn.tup (s12.tup ha)⟩, h14, fun H3 hF kp => ⟨rfl, ?_⟩⟩
    have s3 : Same H2 H3 := Same.made np ndx kp
    have t3 := s12.trans s3
    obtain ⟨dx', ar, po, pl, h1, h2, h3, kp', hk1, hk2, hk3⟩ := id hF
    have kl : kp'.length = (placesL r).length := by rw [← hk2, List.length_map]
    refine ⟨_, rfl, _, rfl, _, rfl, p, C, dx', _, _, rfl, h1, T.cl, T.aL, g_places, pl, rfl, ⟨_, SqL.of hk1⟩, fun D hD => ?_⟩
    refine lc_list (K := K) (a := pl) (xs := rf kp') (fun i H4 => Same H3 H4 ∧ PlL K H4 D ((movP r sh).take i)) ⟨same_upd hD, [], upd_same, by rw [List.take_zero]; rfl, tp_nil⟩ (fun i H4 _ ⟨s4, _⟩ => SqL.of (s4 _ _ hk1)) ?_ ?_
    · rintro i y H4 hi ⟨s4, ks, hD4, ek, tk⟩
      obtain ⟨q, rfl, hq⟩ := getR hi
      have hqm := List.mem_of_getElem? hq
      have hq2 : (placesL r)[i]? = some q.2 := by rw [← hk2, List.getElem?_map, hq]; rfl
      have hqp := List.mem_of_getElem? hq2
      have t4 := t3.trans s4
      refine ⟨rfl, _, rfl, _, rfl, _, rfl, _, _, _, r, q.2, sh, rfl, ⟨a, rfl, t4.tup ha⟩, ⟨q.1, rfl, s4.tup (hk3 q hqm)⟩, ⟨c, rfl, t4.tup hc⟩, h14, rr_whole h14 hqp, rr_whole h14 hsh, fun t H5 s5 nt ht => ?_⟩
      have ev : (movP r sh)[i]? = some (sumP r q.2 sh) := by
        unfold movP
        rw [List.getElem?_map, hq2]
        rfl
      have il := ltL hq2
      have kl2 : ks.length = i := by
        have e := congrArg List.length ek
        rw [List.length_map, List.length_take, movP, List.length_map] at e
        omega
      refine ⟨_, s5 _ _ hD4, sl_lt (by rw [List.length_map]; omega), same_at (s4.trans s5) hD, ks ++ [(t, sumP r q.2 sh)], ?_, ?_, tp_at (tp_snoc (tp_same s5 tk) ht) (s5 _ _ hD4)⟩
      · rw [upd_same, rf_snoc]
      · rw [List.map_append, ek, takeS ev]
        rfl
    · rintro H4 ⟨s4, P4⟩
      have ml : (movP r sh).length = (placesL r).length := by rw [movP, List.length_map]
      rw [List.length_map, kl, ← ml, List.take_length] at P4
      have t4 := t3.trans s4
      exact ⟨p, D, _, r, ns, movP r sh, rfl, s4.floor hF, t4.row hR, h14, P4, mov_nd r h14 sh hsh, ml, by omega, mov_all r h14 sh hsh, fun v' H5 s5 hv => k v' H5 (t4.trans s5) hv⟩
end
end K09

/-! The law's moved and mirrored rows are the program's. -/
namespace K09
open PySem PySem.Spec PyProof.Rows L2
def zeroP (r : List Int) : List Int := (placesL r).getD 0 []
theorem zero_in : ∀ r ∈ RR, zeroP r ∈ placesL r := by decide +kernel
/-- a row laid anew by indexes -/
theorem laid_get {r : List Int} {qs : List (List Int)} {ns : List Num} {i : Nat} {x : List Int} (hx : (placesL r)[i]? = some x) : (laidL r qs ns)[i]? = some (ns.getD (qs.idxOf x) ([], 1)) := by
  unfold laidL
  rw [List.getElem?_map, hx]
  rfl
/-- what is asked of each number holds of the laid row's -/
theorem laid_mem {r : List Int} {qs : List (List Int)} {ns : List Num} (hl : ns.length = qs.length) (all : ∀ x ∈ placesL r, x ∈ qs) {n : Num} (hn : n ∈ laidL r qs ns) : n ∈ ns := by
  unfold laidL at hn
  obtain ⟨x, hx, rfl⟩ := List.mem_map.mp hn
  have jl := List.idxOf_lt_length_iff.mpr (all x hx)
  rw [List.getD_eq_getElem?_getD, List.getElem?_eq_getElem (show qs.idxOf x < ns.length by omega)]
  exact List.getElem_mem _
end K09

/-! Rows laid anew stay rows; laid twice. -/
namespace K09
open PySem PySem.Spec PyProof.Rows L2
theorem rowS_laid {r : List Int} {D : Int} {qs : List (List Int)} {ns : List Num} (h : RowS r D ns) (ql : qs.length = (placesL r).length) (all : ∀ x ∈ placesL r, x ∈ qs) : RowS r D (laidL r qs ns) :=
  ⟨⟨laidL_len r qs ns, fun n hn => h.c.num n (laid_mem (by rw [h.c.len, ql]) all hn)⟩, fun n hn => h.d n (laid_mem (by rw [h.c.len, ql]) all hn)⟩
theorem absR_laid {r : List Int} {M : Nat} {qs : List (List Int)} {ns : List Num} (h : AbsR M ns) (hl : ns.length = qs.length) (all : ∀ x ∈ placesL r, x ∈ qs) : AbsR M (laidL r qs ns) := fun n hn => h n (laid_mem hl all hn)
theorem movP_len (r s : List Int) : (movP r s).length = (placesL r).length := by rw [movP, List.length_map]
theorem mirP_len (r : List Int) : (mirP r).length = (placesL r).length := by rw [mirP, List.length_map]
theorem rowS_mov {r s : List Int} {D : Int} {ns : List Num} (hr : r ∈ RR) (hs : s ∈ placesL r) (h : RowS r D ns) : RowS r D (movL r s ns) := rowS_laid h (movP_len r s) (mov_all r hr s hs)
theorem rowS_mir {r : List Int} {D : Int} {ns : List Num} (hr : r ∈ RR) (h : RowS r D ns) : RowS r D (mirL r ns) := rowS_laid h (mirP_len r) (mir_all r hr)
/-- laid twice, by the indexes -/
theorem laid_laid {r : List Int} {p q t : List (List Int)} {ns : List Num} (hp : ∀ x ∈ placesL r, (placesL r)[p.idxOf x]? ≠ none)
    (h : ∀ x ∈ placesL r, q.idxOf ((placesL r).getD (p.idxOf x) []) = t.idxOf x) : laidL r p (laidL r q ns) = laidL r t ns := by
  refine List.map_congr_left fun x hx => ?_
  cases e : (placesL r)[p.idxOf x]? with
  | none => exact absurd e (hp x hx)
  | some y =>
    have g : (placesL r).getD (p.idxOf x) [] = y := by rw [List.getD_eq_getElem?_getD, e]; rfl
    have k := h x hx
    rw [g] at k
    rw [List.getD_eq_getElem?_getD, laid_get e, k]
    rfl
theorem lay_in {r : List Int} {p : List (List Int)} (pl : p.length = (placesL r).length) (all : ∀ x ∈ placesL r, x ∈ p) : ∀ x ∈ placesL r, (placesL r)[p.idxOf x]? ≠ none := fun x hx e => by
  have jl := List.idxOf_lt_length_iff.mpr (all x hx)
  rw [List.getElem?_eq_none_iff] at e
  omega
theorem mir_ix : ∀ r ∈ RR, ∀ x ∈ placesL r, (mirP r).idxOf ((placesL r).getD ((mirP r).idxOf x) []) = (placesL r).idxOf x := by decide +kernel
/-- mirrored twice -/
theorem mir_mir {r : List Int} (hr : r ∈ RR) {ns : List Num} (hl : ns.length = (placesL r).length) : mirL r (mirL r ns) = ns := by
  have e : mirL r (mirL r ns) = laidL r (placesL r) ns := laid_laid (lay_in (mirP_len r) (mir_all r hr)) (mir_ix r hr)
  rw [e]
  unfold laidL
  refine List.ext_getElem? fun i => ?_
  rw [List.getElem?_map]
  cases hx : (placesL r)[i]? with
  | none =>
    have := List.getElem?_eq_none_iff.mp hx
    rw [List.getElem?_eq_none_iff.mpr (by omega)]
    rfl
  | some x =>
    have il := ltL hx
    have ei : (placesL r)[i] = x := by
      have q := List.getElem?_eq_getElem il
      rw [hx] at q
      exact (Option.some.inj q).symm
    have ix : (placesL r).idxOf x = i := by rw [← ei]; exact (rr_nd r hr).idxOf_getElem i il
    show some (ns.getD ((placesL r).idxOf x) ([], 1)) = _
    rw [ix, List.getD_eq_getElem?_getD, List.getElem?_eq_getElem (show i < ns.length by omega)]
    rfl
end K09

/-! Moved twice, moved back. -/
namespace K09
open PySem PySem.Spec PyProof.Rows L2
theorem sum_in : ∀ r ∈ RR, ∀ x ∈ placesL r, ∀ y ∈ placesL r, sumP r x y ∈ placesL r := by decide +kernel
theorem getD_rng {n k : Nat} {f : Nat → Int} (h : k < n) : ((List.range n).map f).getD k 0 = f k := by
  rw [List.getD_eq_getElem?_getD, List.getElem?_map, List.getElem?_range h]
  rfl
theorem sumP_assoc (r x s m : List Int) : sumP r x (sumP r s m) = sumP r (sumP r x s) m := by
  unfold sumP
  refine List.map_congr_left fun k hk => ?_
  have hk' := List.mem_range.mp hk
  rw [getD_rng hk', getD_rng hk', Int.add_emod_emod, Int.emod_add_emod, Int.add_assoc]
theorem idx_at {qs : List (List Int)} (nd : qs.Nodup) {i : Nat} {x : List Int} (h : qs[i]? = some x) : qs.idxOf x = i := by
  have il := ltL h
  have e : qs[i] = x := by
    have q := List.getElem?_eq_getElem il
    rw [h] at q
    exact (Option.some.inj q).symm
  rw [← e]
  exact nd.idxOf_getElem i il
theorem mov_idx {r m x y : List Int} (hr : r ∈ RR) (hm : m ∈ placesL r) (hy : y ∈ placesL r) (e : sumP r y m = x) : (movP r m).idxOf x = (placesL r).idxOf y := by
  refine idx_at (mov_nd r hr m hm) ?_
  unfold movP
  rw [List.getElem?_map, idx_get hy]
  exact congrArg some e
theorem mov_pre {r m x : List Int} (hr : r ∈ RR) (hm : m ∈ placesL r) (hx : x ∈ placesL r) : ∃ y ∈ placesL r, sumP r y m = x := List.mem_map.mp (mov_all r hr m hm x hx)
theorem mov_mov {r s m : List Int} (hr : r ∈ RR) (hs : s ∈ placesL r) (hm : m ∈ placesL r) (ns : List Num) : movL r m (movL r s ns) = movL r (sumP r s m) ns := by
  refine laid_laid (lay_in (movP_len r m) (mov_all r hr m hm)) fun x hx => ?_
  obtain ⟨y, hy, ey⟩ := mov_pre hr hm hx
  obtain ⟨z, hz, ez⟩ := mov_pre hr hs hy
  have g : (placesL r).getD ((movP r m).idxOf x) [] = y := by
    rw [mov_idx hr hm hy ey, List.getD_eq_getElem?_getD, idx_get hy]
    rfl
  rw [g, mov_idx hr hs hz ez, mov_idx hr (sum_in r hr s hs m hm) hz (by rw [sumP_assoc, ez, ey])]
theorem rep_in : ∀ r ∈ RR, ∀ s ∈ placesL r, repL r s (-1) ∈ placesL r := by decide +kernel
theorem neg_sum : ∀ r ∈ RR, ∀ s ∈ placesL r, sumP r s (repL r s (-1)) = zeroP r := by decide +kernel
theorem sum_zero : ∀ r ∈ RR, ∀ x ∈ placesL r, sumP r x (zeroP r) = x := by decide +kernel
/-- laid as it stood -/
theorem laid_id {r : List Int} (hr : r ∈ RR) {ns : List Num} (hl : ns.length = (placesL r).length) : laidL r (placesL r) ns = ns := by
  unfold laidL
  refine List.ext_getElem? fun i => ?_
  rw [List.getElem?_map]
  cases hx : (placesL r)[i]? with
  | none =>
    have := List.getElem?_eq_none_iff.mp hx
    rw [List.getElem?_eq_none_iff.mpr (by omega)]
    rfl
  | some x =>
    have il := ltL hx
    show some (ns.getD ((placesL r).idxOf x) ([], 1)) = _
    rw [idx_at (rr_nd r hr) hx, List.getD_eq_getElem?_getD, List.getElem?_eq_getElem (show i < ns.length by omega)]
    rfl
theorem mov_zero {r : List Int} (hr : r ∈ RR) {ns : List Num} (hl : ns.length = (placesL r).length) : movL r (zeroP r) ns = ns := by
  have e : movP r (zeroP r) = placesL r := by
    unfold movP
    conv => rhs; rw [← List.map_id (placesL r)]
    exact List.map_congr_left fun x hx => sum_zero r hr x hx
  unfold movL
  rw [e, laid_id hr hl]
/-- moved, and moved back -/
theorem mov_back {r s : List Int} (hr : r ∈ RR) (hs : s ∈ placesL r) {ns : List Num} (hl : ns.length = (placesL r).length) : movL r (repL r s (-1)) (movL r s ns) = ns := by
  rw [mov_mov hr hs (rep_in r hr s hs), neg_sum r hr s hs, mov_zero hr hl]
end K09

/-! Sums in another order; the voices of a mirrored row. -/
namespace K09
open PySem PySem.Spec PyProof.Rows L2
theorem sm_reidx {f : Nat → Int} {σ τ : Nat → Nat} {n : Nat} (hs : ∀ i, i < n → σ i < n) (h1 : ∀ i, i < n → τ (σ i) = i) (h2 : ∀ j, j < n → τ j < n ∧ σ (τ j) = j) : sm n (fun i => f (σ i)) = sm n f := by
  have a : sm n (fun i => f (σ i)) = sm n (fun i => sm n (fun j => if j = σ i then f j else 0)) := sm_congr fun i hi => by rw [sm_delta, if_pos (hs i hi)]
  rw [a, sm_swap]
  refine sm_congr fun j hj => ?_
  have b : sm n (fun i => if j = σ i then f j else 0) = sm n (fun i => if i = τ j then f j else 0) := sm_congr fun i hi => by
    by_cases e : i = τ j
    · rw [if_pos e, if_pos (by rw [e, (h2 j hj).2])]
    · rw [if_neg e, if_neg (fun z => e (by rw [z, h1 i hi]))]
  rw [b, sm_delta (f := fun _ => f j), if_pos (h2 j hj).1]
/-- the index of the opposite place -/
def opI (r : List Int) (i : Nat) : Nat := (mirP r).idxOf ((placesL r).getD i [])
theorem op_ok : ∀ r ∈ RR, ∀ i ∈ List.range (placesL r).length, opI r i < (placesL r).length ∧ opI r (opI r i) = i := by decide +kernel
theorem op_pair : ∀ r ∈ RR, ∀ b ∈ List.range (placesL r).length, ∀ i ∈ List.range (placesL r).length, pairL r (ordL r) ((placesL r).getD (opI r b) []) ((placesL r).getD i []) = pairL r (ordL r) ((placesL r).getD b []) ((placesL r).getD (opI r i) []) := by decide +kernel
theorem mir_at {r : List Int} {ns : List Num} {i : Nat} (hi : i < (placesL r).length) : (mirL r ns)[i]? = some (ns.getD (opI r i) ([], 1)) := by
  have h := List.getElem?_eq_getElem hi
  unfold mirL
  rw [laid_get h]
  unfold opI
  rw [List.getD_eq_getElem?_getD (l := placesL r), h]
  rfl
theorem mir_some {r : List Int} (h : r ∈ RR) {ns : List Num} (hl : ns.length = (placesL r).length) {i : Nat} {n : Num} (hn : (mirL r ns)[i]? = some n) : i < (placesL r).length ∧ ns[opI r i]? = some n := by
  have hi : i < (placesL r).length := by
    have q := ltL hn
    unfold mirL at q
    rw [laidL_len] at q
    exact q
  refine ⟨hi, ?_⟩
  rw [mir_at hi] at hn
  have o := (op_ok r h i (List.mem_range.mpr hi)).1
  have g := List.getElem?_eq_getElem (show opI r i < ns.length by omega)
  rw [List.getD_eq_getElem?_getD, g] at hn
  rw [g]
  exact hn
theorem rowC_laid {r : List Int} {qs : List (List Int)} {ns : List Num} (h : RowC r ns) (ql : qs.length = (placesL r).length) (all : ∀ x ∈ placesL r, x ∈ qs) : RowC r (laidL r qs ns) :=
  ⟨laidL_len r qs ns, fun n hn => h.num n (laid_mem (by rw [h.len, ql]) all hn)⟩
/-- the voices of a mirrored row -/
theorem vo_mir {r : List Int} (h : r ∈ RR) {ns : List Num} (C : RowC r ns) : voL r (mirL r ns) = mirL r (voL r ns) := by
  have hB : 1 ≤ levB ns := levB_pos fun n hn => (C.num n hn).pos
  have Cm : RowC r (mirL r ns) := rowC_laid C (mirP_len r) (mir_all r h)
  have Cv : RowC r (mirL r (voL r ns)) := rowC_laid (rowC_vo h C) (mirP_len r) (mir_all r h)
  have op : ∀ i, i < (placesL r).length → opI r i < (placesL r).length ∧ opI r (opI r i) = i := fun i hi => op_ok r h i (List.mem_range.mpr hi)
  refine rows_eq (rowC_vo h Cm) Cv hB (w := fun i => Tq r 1 (pl r (opI r i)) (wv (levT ns))) (fun i n hn => ?_) (fun i n hn => ?_)
  · have hi := (voL_get hn).1
    have q := Rp_vo h Cm hB (w := fun a => wv (levT ns) (opI r a)) (fun a b hb => Rp_lev C (mir_some h C.len hb).2) hn
    refine Rp_congr (fun k hk => ?_) q
    have s := sm_reidx (f := fun b => tn (dg r) (polyL (ordL r)) (pw r (ordL r) 1 ((placesL r).getD b []) ((placesL r).getD (opI r i) [])) (wv (levT ns) b) k) (σ := opI r) (τ := opI r) (n := (placesL r).length) (fun a ha => (op a ha).1) (fun a ha => (op a ha).2) op
    refine Eq.trans ?_ s
    refine sm_congr fun a ha => ?_
    have e := op_pair r h (opI r a) (List.mem_range.mpr (op a ha).1) i (List.mem_range.mpr hi)
    rw [(op a ha).2] at e
    unfold pw
    rw [e]
  · exact Rp_vo h C hB (fun a b hb => Rp_lev C hb) (mir_some h (rowC_vo h C).len hn).2
end K09

/-! The deck: what the law draws by. -/
namespace K09
open PySem PySem.Spec PyProof.Rows L2
abbrev deckKV (l : Addr) (m k : Int) : List (Key × V) := [((.inr "cells" : Key), V.ref l), (.inr "mixed", .int m), (.inr "draws", .int k)]
/-- a deck at d, its cells at l -/
def DeckAt (d l : Addr) (H : Hp) : Prop := ∃ (ns : List Int) (m k : Int), H d = some (.dK (deckKV l m k)) ∧ H l = some (.lst (ns.map V.int)) ∧ ns.length ≤ 63
/-- all else stands as it was -/
def Keeps (d l : Addr) (H H' : Hp) : Prop := ∀ b o, H b = some o → b ≠ d → b ≠ l → H' b = some o
theorem Keeps.refl {d l : Addr} {H : Hp} : Keeps d l H H := fun _ _ e _ _ => e
theorem Keeps.trans {d l : Addr} {H H1 H2 : Hp} (a : Keeps d l H H1) (b : Keeps d l H1 H2) : Keeps d l H H2 := fun c o e h1 h2 => b c o (a c o e h1 h2) h1 h2
theorem Keeps.new {d l p : Addr} {H : Hp} {o : HO} (h : H p = none) : Keeps d l H (upd H p o) := fun b u e _ _ => by
  rw [upd_ne (ne_of_none e h)]
  exact e
theorem Keeps.atD {d l : Addr} {H : Hp} {o : HO} : Keeps d l H (upd H d o) := fun b u e h _ => by
  rw [upd_ne h]
  exact e
theorem Keeps.atL {d l : Addr} {H : Hp} {o : HO} : Keeps d l H (upd H l o) := fun b u e _ h => by
  rw [upd_ne h]
  exact e
theorem DeckAt.new {d l p : Addr} {H : Hp} {o : HO} (D : DeckAt d l H) (h : H p = none) : DeckAt d l (upd H p o) := by
  obtain ⟨ns, m, k, h1, h2, h3⟩ := D
  exact ⟨ns, m, k, by rw [upd_ne (ne_of_none h1 h)]; exact h1, by rw [upd_ne (ne_of_none h2 h)]; exact h2, h3⟩
theorem DeckAt.ne {d l : Addr} {H : Hp} (D : DeckAt d l H) : d ≠ l := by
  obtain ⟨ns, m, k, h1, h2, _⟩ := D
  exact ne_of h1 h2 (by intro z; cases z)
/-- one draw below n -/
def spDraw : Sp := fun vs H Q _ => ∃ (d l : Addr) (n : Int), vs = [.ref d, .int n] ∧ DeckAt d l H ∧ 1 ≤ n ∧ n < 1099511627776 ∧ ∀ r H', 0 ≤ r → r < n → DeckAt d l H' → Keeps d l H H' → Q (.int r) H'
/-- one of a list's items -/
def spPick (K : PySem.W.Frag) : Sp := fun vs H Q _ => ∃ (d l p : Addr) (xs : List V), vs = [.ref d, .ref p] ∧ DeckAt d l H ∧ H p = some (.lst xs) ∧ p ≠ l ∧ 1 ≤ xs.length ∧ xs.length < 1000000 ∧ ∀ v H', v ∈ xs → DeckAt d l H' → Keeps d l H H' → Q v H'
/-- a deck of a script -/
def spDeck (K : PySem.W.Frag) : Sp := fun vs H Q _ => ∃ (a : Addr) (ns : List Int), vs = [.ref a] ∧ SqL K H a (ns.map V.int) ∧ ns.length ≤ 63 ∧ ∀ d l H', DeckAt d l H' → (∀ b o, H b = some o → H' b = some o) → H d = none → H l = none → Q (.ref d) H'
section
theorem shaped_ints (ns : List Int) : SeqAt.shaped (.list (ns.map PyData.int)) = true := by
  have h1 : PyData.canLayAll0 (ns.map PyData.int) = true := by
    induction ns with
    | nil => rfl
    | cons n r ih => simp [PyData.canLayAll0, PyData.canLay0, ih]
  have h2 : PyData.depthAll (ns.map PyData.int) ≤ 1 := by
    induction ns with
    | nil => simp [PyData.depthAll]
    | cons n r ih =>
      have := ih (by simpa [PyData.canLayAll0, PyData.canLay0] using h1)
      simp only [List.map_cons, PyData.depthAll, PyData.depth]
      omega
  unfold SeqAt.shaped
  rw [Bool.and_eq_true]
  have h3 : (PyData.list (ns.map PyData.int)).depth ≤ 64 := by
    simp only [PyData.depth]
    omega
  exact ⟨by simpa [PyData.canLay0] using h1, decide_eq_true h3⟩
theorem eqv_nil : ∀ ns : List Int, PyData.eqv (.list (ns.map PyData.int)) (.list []) = decide (ns = []) := by
  intro ns
  cases ns with
  | nil => rfl
  | cons n r => simp [PyData.eqv, PyData.eqvAll]
theorem ne_cm : ¬ (Sum.inr "cells" : Key) = .inr "mixed" := fun z => absurd (Sum.inr.inj z) (by decide +kernel)
theorem ne_cd : ¬ (Sum.inr "cells" : Key) = .inr "draws" := fun z => absurd (Sum.inr.inj z) (by decide +kernel)
theorem ne_md : ¬ (Sum.inr "mixed" : Key) = .inr "draws" := fun z => absurd (Sum.inr.inj z) (by decide +kernel)
theorem val_cells {l : Addr} {m k : Int} : valV (deckKV l m k) (.inr "cells") = some (.ref l) := by
  rw [L2.valV_pos rfl]
theorem val_mixed {l : Addr} {m k : Int} : valV (deckKV l m k) (.inr "mixed") = some (.int m) := by
  rw [L2.valV_neg ne_cm, L2.valV_pos rfl]
theorem val_turn {l : Addr} {m k : Int} : valV (deckKV l m k) (.inr "draws") = some (.int k) := by
  rw [L2.valV_neg ne_cd, L2.valV_neg ne_md, L2.valV_pos rfl]
theorem put_turn {l : Addr} {m k j : Int} : putK (deckKV l m k) (.inr "draws") (.int j) = deckKV l m j := by
  have h1 : ¬ Str.ofString "cells" = Str.ofString "draws" := by decide +kernel
  have h2 : ¬ Str.ofString "mixed" = Str.ofString "draws" := by decide +kernel
  simp [putK, deckKV, h1, h2]
theorem get_cells {H : Hp} {d l : Addr} {m k : Int} (h : H d = some (.dK (deckKV l m k))) : DGet H d (.str "cells") (some (.ref l)) := by
  rw [← val_cells (l := l) (m := m) (k := k)]
  exact DGet.k (k := Sum.inr "cells") h
theorem get_mixed {H : Hp} {d l : Addr} {m k : Int} (h : H d = some (.dK (deckKV l m k))) : DGet H d (.str "mixed") (some (.int m)) := by
  rw [← val_mixed (l := l) (m := m) (k := k)]
  exact DGet.k (k := Sum.inr "mixed") h
theorem get_turn {H : Hp} {d l : Addr} {m k : Int} (h : H d = some (.dK (deckKV l m k))) : DGet H d (.str "draws") (some (.int k)) := by
  rw [← val_turn (l := l) (m := m) (k := k)]
  exact DGet.k (k := Sum.inr "draws") h
theorem put_turnD {H : Hp} {d l : Addr} {m k j : Int} (h : H d = some (.dK (deckKV l m k))) : DPut H d (.str "draws") (.int j) (upd H d (.dK (deckKV l m j))) := by
  rw [← put_turn (l := l) (m := m) (k := k) (j := j)]
  exact DPut.k (k := Sum.inr "draws") h (by show 3 < sizeLine; decide)
end
section
variable {P : Program} {w : World} {K : PySem.W.Frag} {mg : Str → Option Value} {base : Heap} {f fD : Addr} {fd fdD : FuncData}
theorem scDraw : FnScope ["deck", "many", "number", "cell"] ["deck", "many"] (defScope sDraw) := ⟨rfl, rfl, rfl, by decide +kernel, rfl, by decide +kernel, by decide +kernel⟩
theorem ok_draw (F : FnP K "_law_draw" sDraw f fd) (B : Bl mg) : FnOk P w K mg base CX0 1 f fd ["deck", "many"] spDraw := by
  refine F.ok scDraw (fun vs H Q E h => ?_) (fun cdv A outer s H vs Q E hr h => ?_)
  · obtain ⟨d, l, n, rfl, _⟩ := h
    rfl
  · obtain ⟨d, l, n, rfl, D, hn1, hn2, k⟩ := h
    have hu := hu_of hr
    have dl := D.ne
    have int1 : ∀ X : Cx, X.mg = mg → True := fun _ _ => trivial
    obtain ⟨ns, m, j, h1, h2, h3⟩ := D
    refine ⟨_, pss_cons (ps_dput hu (pv 0) pe_str (pe_op op_add (pe_dget hu (pv 0) pe_str (fun _ _ => rfl)) pe_int) rfl)
      (pss_cons (ps_set (i := 2) scDraw.nd rfl (Or.inl rfl) (pe_op op_add (pe_dget hu (pv 0) pe_str (fun _ _ => rfl)) (pe_op op_mul pe_int (pe_dget hu (pv 0) pe_str (fun _ _ => rfl)))))
      (pss_cons (ps_if (pt_cmpR (op_neD (Nat.lt_of_le_of_lt (Nat.add_le_add_left (by decide : 64 ≤ 64) _) hr.units)) (pe_dget hu (pv 0) pe_str (fun _ _ => rfl)) (pe_lst pa_nil) (nomark _))
          (pss_cons (ps_set (i := 3) scDraw.nd rfl (Or.inl rfl) (pe_bm0 PySem.F.plainAttrs_list PySem.F.slot_list_pop PySem.F.type_list_pop mt_pop (pe_dget hu (pv 0) pe_str (fun _ _ => rfl))))
          (pss_cons (ps_if (pt_cmpR op_ge (pv 3) (pe_op op_pow pe_int pe_int) (nomark _))
              (pss_cons (ps_expr (pe_bm PySem.F.plainAttrs_list PySem.F.slot_list_append PySem.F.type_list_append mt_append (pe_dget hu (pv 0) pe_str (fun _ _ => rfl)) (pa_cons (pe_op op_fdivW (pv 3) (pe_callB (call_max2 rfl) (by rfl) (B "max" (by decide +kernel)) (by decide +kernel) (pa_cons pe_int (pa_cons (pv 1) pa_nil)))) pa_nil)))
              (pss_one (ps_ret (pe_op op_mod (pe_callTy call_int1 (by rfl) (B "int" (by decide +kernel)) (by decide +kernel) (pa_cons (pv 3) pa_nil)) (pv 1)))))
              pss_nil)
          (pss_one (ps_set (i := 2) scDraw.nd rfl (Or.inl rfl) (pe_op op_add (pv 2) (pe_op op_mod (pe_callTy call_int1 (by rfl) (B "int" (by decide +kernel)) (by decide +kernel) (pa_cons (pv 3) pa_nil)) pe_int))))))
          pss_nil)
      (pss_cons (ps_set (i := 2) scDraw.nd rfl (Or.inl rfl) (pe_op op_mod (pe_callTy call_int1 (by rfl) (B "int" (by decide +kernel)) (by decide +kernel) (pa_cons (pe_op op_add (pe_op op_mul (pv 2) pe_int) pe_int) pa_nil)) pe_int))
      (pss_cons (ps_set (i := 2) scDraw.nd rfl (Or.inl rfl) (pe_op op_mod (pe_callTy call_int1 (by rfl) (B "int" (by decide +kernel)) (by decide +kernel) (pa_cons (pe_op op_add (pe_op op_add (pe_op op_mul (pv 2) (pv 2)) (pe_op op_mul pe_int (pe_dget hu (pv 0) pe_str (fun _ _ => rfl)))) pe_int) pa_nil)) pe_int))
      (pss_cons (ps_set (i := 2) scDraw.nd rfl (Or.inl rfl) (pe_op op_mod (pe_callTy call_int1 (by rfl) (B "int" (by decide +kernel)) (by decide +kernel) (pa_cons (pe_op op_mul (pv 2) pe_int) pa_nil)) pe_int))
      (pss_one (ps_ret (pe_op op_mod (pe_callTy call_int1 (by rfl) (B "int" (by decide +kernel)) (by decide +kernel) (pa_cons (pe_op op_fdiv (pv 2) pe_int) pa_nil)) (pv 1))))))))), ?_⟩
    -- deck['draws'] = deck['draws'] + 1
    refine ⟨_, rfl, d, _, rfl, get_turn h1, _, _, rfl, rfl, _, rfl, d, _, rfl, put_turnD h1, ?_⟩
    generalize hH1 : upd H d (.dK (deckKV l m (j + 1))) = H1
    have g1 : H1 d = some (.dK (deckKV l m (j + 1))) := by rw [← hH1, upd_same]
    have g2 : H1 l = some (.lst (ns.map V.int)) := by rw [← hH1, upd_ne dl.symm]; exact h2
    have kp : Keeps d l H H1 := by rw [← hH1]; exact Keeps.atD
    generalize j + 1 = j1 at g1
    -- number = deck['mixed'] + 69621 * deck['draws']
    refine ⟨_, rfl, d, _, rfl, get_mixed g1, _, rfl, d, _, rfl, get_turn g1, _, _, rfl, rfl, Or.inl ⟨by decide, by decide⟩, _, _, rfl, rfl, ?_⟩
    -- if deck['cells'] != []
    refine ⟨_, rfl, d, _, rfl, get_cells g1, (by show 0 ≤ sizeLine; omega), fun p np => ?_⟩
    have npd : d ≠ p := ne_of_none g1 np
    have npl : l ≠ p := ne_of_none g2 np
    have g1' : ∀ o, upd H1 p o d = some (.dK (deckKV l m j1)) := fun o => by rw [upd_ne npd]; exact g1
    have g2' : ∀ o, upd H1 p o l = some (.lst (ns.map V.int)) := fun o => by rw [upd_ne npl]; exact g2
    refine ⟨.list (ns.map PyData.int), .list [], .lst (SqL.of (g2' _)) (dp_ints ns), .lst (SqL.of upd_same) .nil, shaped_ints ns, shaped_ints [], _, rfl, ?_⟩
    rw [eqv_nil]
    have kp1 : Keeps d l H (upd H1 p (.lst [])) := kp.trans (.new np)
    have hn0 : 0 < n := by omega
    have popped : ∀ c : Int, ns ≠ [] → (ns.map V.int)[(ns.map V.int).length - 1]? = some (.int c) → True := fun _ _ _ => trivial
    refine ite2 (fun hne => ?_) (fun he => ?_)
    · have hne' : ns ≠ [] := by
        intro z
        rw [z] at hne
        simp at hne
      have hpos : 0 < ns.length := List.length_pos_iff.mpr hne'
      obtain ⟨c, hc⟩ : ∃ c, (ns.map V.int)[(ns.map V.int).length - 1]? = some (.int c) := by
        rw [List.length_map, List.getElem?_map, List.getElem?_eq_getElem (by omega)]
        exact ⟨_, rfl⟩
      -- cell = deck['cells'].pop()
      refine ⟨_, rfl, d, _, rfl, get_cells (g1' _), Or.inl ⟨rfl, _, SqL.of (g2' _)⟩, l, _, _, rfl, rfl, g2' _, hc, ?_⟩
      generalize hH3 : upd (upd H1 p (.lst [])) l (.lst (ns.map V.int).dropLast) = H3
      have q1 : H3 d = some (.dK (deckKV l m j1)) := by rw [← hH3, upd_ne dl]; exact g1' _
      have q2 : H3 l = some (.lst (ns.dropLast.map V.int)) := by rw [← hH3, upd_same, List.map_dropLast]
      have kp3 : Keeps d l H H3 := by rw [← hH3]; exact kp1.trans .atL
      have hlen : (ns.dropLast).length + 1 ≤ 63 := by rw [List.length_dropLast]; omega
      -- if cell >= 10 ** 18
      refine ⟨_, rfl, _, _, rfl, rfl, ⟨by decide, by decide, by decide⟩, _, _, rfl, rfl, _, rfl, ite2 (fun _ => ?_) (fun _ => ?_)⟩
      · refine ⟨_, rfl, d, _, rfl, get_cells q1, Or.inl ⟨rfl, _, SqL.of q2⟩, _, rfl, _, rfl, _, _, rfl, _, _, rfl, rfl, ⟨by split <;> omega, (Nat.log2_lt (by split <;> omega)).mpr (Nat.lt_of_lt_of_le (show _ < 2 ^ 40 by split <;> omega) (Nat.pow_le_pow_right (by decide) (by decide)))⟩, l, _, _, rfl, rfl, q2, small1000 (by rw [List.length_map]; omega), ?_⟩
        refine ⟨_, rfl, Or.inl ⟨_, rfl, _, rfl, _, _, rfl, rfl, hn0, k _ _ (Int.emod_nonneg _ (by omega)) (Int.emod_lt_of_pos _ hn0) ⟨ns.dropLast ++ [c / (if n > 2 then n else 2)], m, j1, by rw [upd_ne dl]; exact q1, by rw [upd_same, List.map_append]; rfl, by rw [List.length_append]; exact hlen⟩ (kp3.trans .atL)⟩⟩
      · refine ⟨_, rfl, _, rfl, Or.inl ⟨_, rfl, _, _, rfl, rfl, (by show (0 : Int) < 2147483629; decide), _, _, rfl, rfl, ?_⟩⟩
        refine ⟨_, rfl, _, _, rfl, rfl, Or.inr ⟨by decide, by decide⟩, _, _, rfl, rfl, Or.inl ⟨_, rfl, _, _, rfl, rfl, (by show (0 : Int) < 2147483647; decide), ?_⟩⟩
        refine ⟨_, rfl, _, rfl, _, _, rfl, rfl, Or.inl ⟨by omega, by omega⟩, _, rfl, d, _, rfl, get_turn q1, _, _, rfl, rfl, Or.inl ⟨by decide, by decide⟩, _, _, rfl, rfl, _, _, rfl, rfl, Or.inl ⟨_, rfl, _, _, rfl, rfl, (by show (0 : Int) < 2147483587; decide), ?_⟩⟩
        refine ⟨_, rfl, _, _, rfl, rfl, Or.inr ⟨by decide, by decide⟩, Or.inl ⟨_, rfl, _, _, rfl, rfl, (by show (0 : Int) < 2147483563; decide), ?_⟩⟩
        exact ⟨_, rfl, _, _, rfl, rfl, ⟨by decide, by decide⟩, Or.inl ⟨_, rfl, _, rfl, _, _, rfl, rfl, hn0, k _ _ (Int.emod_nonneg _ (by omega)) (Int.emod_lt_of_pos _ hn0) ⟨ns.dropLast, m, j1, q1, q2, by omega⟩ kp3⟩⟩
    · refine ⟨_, rfl, _, _, rfl, rfl, Or.inr ⟨by decide, by decide⟩, _, _, rfl, rfl, Or.inl ⟨_, rfl, _, _, rfl, rfl, (by show (0 : Int) < 2147483647; decide), ?_⟩⟩
      refine ⟨_, rfl, _, rfl, _, _, rfl, rfl, Or.inl ⟨by omega, by omega⟩, _, rfl, d, _, rfl, get_turn (g1' _), _, _, rfl, rfl, Or.inl ⟨by decide, by decide⟩, _, _, rfl, rfl, _, _, rfl, rfl, Or.inl ⟨_, rfl, _, _, rfl, rfl, (by show (0 : Int) < 2147483587; decide), ?_⟩⟩
      refine ⟨_, rfl, _, _, rfl, rfl, Or.inr ⟨by decide, by decide⟩, Or.inl ⟨_, rfl, _, _, rfl, rfl, (by show (0 : Int) < 2147483563; decide), ?_⟩⟩
      exact ⟨_, rfl, _, _, rfl, rfl, ⟨by decide, by decide⟩, Or.inl ⟨_, rfl, _, rfl, _, _, rfl, rfl, hn0, k _ _ (Int.emod_nonneg _ (by omega)) (Int.emod_lt_of_pos _ hn0) ⟨ns, m, j1, g1' _, g2' _, h3⟩ kp1⟩⟩
end
end K09

namespace K09
open PySem PySem.Spec PyProof.Rows L2
theorem cut_ints (ns : List Int) (lo hi : Option Int) : ∃ ms : List Int, cutV (ns.map V.int) lo hi = ms.map V.int ∧ ms.length ≤ ns.length := by
  unfold cutV
  rw [← List.map_drop, ← List.map_take]
  exact ⟨_, rfl, by rw [List.length_take, List.length_drop]; omega⟩
section
variable {P : Program} {w : World} {K : PySem.W.Frag} {mg : Str → Option Value} {base : Heap} {f fD : Addr} {fd fdD : FuncData}
theorem scPick : FnScope ["deck", "some"] ["deck", "some"] (defScope sPick) := ⟨rfl, rfl, rfl, by decide +kernel, rfl, by decide +kernel, by decide +kernel⟩
theorem ok_pick (F : FnP K "_law_pick" sPick f fd) (FD : FnP K "_law_draw" sDraw fD fdD) (gD : mg "_law_draw" = some (.ref fD)) (B : Bl mg) : FnOk P w K mg base CX0 2 f fd ["deck", "some"] (spPick K) := by
  have GD : FnOk P w K mg base CX0 1 fD fdD ["deck", "many"] spDraw := ok_draw FD B
  have bD : Binds K fdD ["deck", "many"] [] := FD.bindsN fun _ _ _ _ _ _ us hl => match us, hl with | [_, _], _ => rfl
  refine F.ok scPick (fun vs H Q E h => ?_) (fun cdv A outer s H vs Q E hr h => ?_)
  · obtain ⟨d, l, p, xs, rfl, _⟩ := h
    rfl
  · obtain ⟨d, l, p, xs, rfl, D, hp, hpl, h1, h2, k⟩ := h
    have dp : p ≠ d := by
      obtain ⟨ns, m, j, q, _⟩ := D
      exact ne_of hp q (by intro z; cases z)
    refine ⟨_, PSs.nox (pss_one (ps_ret (pe_ix ix_list (pv 1) (pe_call GD hr rfl gD FD.kp bD .nil pass0 (pa_cons (pv 0) (pa_cons (pe_callB call_len_seq (by rfl) (B "len" (by decide +kernel)) PySem.boot_len (pa_cons (pv 1) pa_nil)) pa_nil))) (fun _ _ => rfl)))), ?_⟩
    refine ⟨_, rfl, _, rfl, _, rfl, p, _, rfl, .inl (SqL.of hp), d, l, _, rfl, D, by omega, by omega, fun r H' r0 r1 D' K' => ?_⟩
    obtain ⟨j, rfl⟩ := Int.eq_ofNat_of_zero_le r0
    have hj : j < xs.length := by omega
    exact ⟨p, _, _, _, rfl, rfl, SqL.of (K' _ _ hp dp hpl), atI_nat (List.getElem?_eq_getElem hj), k _ H' (List.getElem_mem hj) D' K'⟩
end
end K09

namespace K09
open PySem PySem.Spec PyProof.Rows L2
section
variable {P : Program} {w : World} {K : PySem.W.Frag} {mg : Str → Option Value} {base : Heap} {f fD : Addr} {fd fdD : FuncData}
theorem scDeck : FnScope ["script", "number", "cell"] ["script"] (defScope sDeck) := ⟨rfl, rfl, rfl, by decide +kernel, rfl, by decide +kernel, by decide +kernel⟩
theorem merge_deck (l : Addr) (m k : Int) : mergeK [] (deckKV l m k) = deckKV l m k := rfl
theorem ok_deck (F : FnP K "_law_deck" sDeck f fd) (B : Bl mg) : FnOk P w K mg base CX0 1 f fd ["script"] (spDeck K) := by
  refine F.ok scDeck (fun vs H Q E h => ?_) (fun cdv A outer s H vs Q E hr h => ?_)
  · obtain ⟨a, ns, rfl, _⟩ := h
    rfl
  · obtain ⟨a, ns, rfl, hS, hlen, k⟩ := h
    refine ⟨_, PSs.nox (pss_cons (ps_set (i := 1) scDeck.nd rfl (Or.inl rfl) pe_int)
      (pss_cons (ps_for PassesOwn.never rfl (pi_list (pe_slice sl_list (pv 0) po_none (po_some pe_int))) (pg_name (i := 2) scDeck.nd rfl (Or.inl rfl))
        (pss_one (ps_set (i := 1) scDeck.nd rfl (Or.inl rfl) (pe_op op_mod (pe_callTy call_int1 (by rfl) (B "int" (by decide +kernel)) (by decide +kernel) (pa_cons (pe_op op_add (pe_op op_add (pe_op op_mul (pv 1) pe_int) (pe_op op_mod (pe_callTy call_int1 (by rfl) (B "int" (by decide +kernel)) (by decide +kernel) (pa_cons (pv 2) pa_nil)) pe_int)) pe_int) pa_nil)) pe_int))))
      (pss_one (ps_ret (pe_disp (pps_cons pe_str (pe_revL (pe_callTy call_list_of (by rfl) (B "list" (by decide +kernel)) (by decide +kernel) (pa_cons (pe_slice sl_list (pv 0) po_none (po_some pe_int)) pa_nil))) (pps_cons pe_str (pv 1) (pps_cons pe_str pe_int pps_nil))) (by rfl) (by rfl) (fun z => by cases z) (by decide)))))), ?_⟩
    obtain ⟨ms, hms, hml⟩ := cut_ints ns none (some 63)
    have hm63 : ms.length ≤ 63 := Nat.le_trans hml hlen
    refine ⟨_, rfl, _, rfl, a, _, rfl, hS, fun p np => ?_⟩
    rw [hms]
    have s1 : Same H (upd H p (.lst (ms.map V.int))) := fun b o e => by
      rw [upd_ne (ne_of_none e np)]
      exact e
    generalize hH1 : upd H p (.lst (ms.map V.int)) = H1 at s1
    have hp : H1 p = some (.lst (ms.map V.int)) := by rw [← hH1, upd_same]
    refine ⟨p, rfl, ⟨_, SqL.of hp⟩, for_list (K := K) (a := p) (xs := ms.map V.int) (fun i σ H2 => ∃ (z : Int) (v : Option V), σ = [some (.ref a), some (.int z), v] ∧ H2 = H1) ⟨_, none, rfl, rfl⟩ (fun i σ H2 _ ⟨_, _, _, e⟩ => by rw [e]; exact SqL.of hp) ?_ ?_⟩
    · rintro i y σ H2 hi ⟨z, v, rfl, rfl⟩
      obtain ⟨c, rfl⟩ : ∃ c, y = V.int c := by
        rw [List.getElem?_map] at hi
        cases e : ms[i]? with
        | none =>
          rw [e] at hi
          cases hi
        | some c =>
          rw [e] at hi
          exact ⟨c, (Option.some.inj hi).symm⟩
      refine ⟨_, rfl, _, _, rfl, rfl, Or.inr ⟨by decide, by decide⟩, _, rfl, Or.inl ⟨_, rfl, _, _, rfl, rfl, (by show (0 : Int) < 2147483629; decide), _, _, rfl, rfl, _, _, rfl, rfl, Or.inl ⟨_, rfl, _, _, rfl, rfl, (by show (0 : Int) < 2147483587; decide), ?_⟩⟩⟩
      exact ⟨_, _, rfl, rfl⟩
    · rintro σ H2 ⟨z, v, rfl, rfl⟩
      intro d nd
      refine ⟨_, rfl, _, rfl, a, ns.map V.int, rfl, ?_, fun q nq => ?_⟩
      · have s2 : Same H2 (upd H2 d (.dK [])) := fun b o e => by
          rw [upd_ne (ne_of_none e nd)]
          exact e
        exact s2.seq (s1.seq hS)
      rw [hms]
      generalize hH3 : upd (upd H2 d (.dK [])) q (.lst (ms.map V.int)) = H3
      have s23 : Same H2 H3 := by
        rw [← hH3]
        exact same_new (same_upd nd) nq
      have h3q : H3 q = some (.lst (ms.map V.int)) := by rw [← hH3, upd_same]
      have h3d : H3 d = some (.dK []) := by
        rw [← hH3, upd_ne (ne_of_none (upd_same (H := H2)) nq)]
        exact upd_same
      refine ⟨q, _, rfl, .inl (SqL.of h3q), fun D hD => ?_⟩
      have s4 : Same H3 (upd H3 D (.lst (ms.map V.int))) := same_upd hD
      generalize hH4 : upd H3 D (.lst (ms.map V.int)) = H4 at s4
      have h4 : H4 D = some (.lst (ms.map V.int)) := by rw [← hH4, upd_same]
      refine ⟨D, _, rfl, SqL.of h4, fun l nl => ?_⟩
      have h5d : upd H4 l (.lst (ms.map V.int).reverse) d = some (.dK []) := by
        rw [upd_ne (ne_of_none (s4 _ _ h3d) nl)]
        exact s4 _ _ h3d
      have dl : l ≠ d := ne_of (upd_same (H := H4)) h5d (by intro z; cases z)
      refine ⟨_, rfl, h5d, deckKV l z 0, rfl, (by show 3 ≤ 15; decide), ?_⟩
      rw [merge_deck]
      have s15 : Same H (upd H4 l (.lst (ms.map V.int).reverse)) := same_new ((s1.trans s23).trans s4) nl
      refine k d l _ ⟨ms.reverse, z, 0, upd_same, ?_, by rw [List.length_reverse]; exact hm63⟩ (fun b o e => ?_) (s1.free nd) (((s1.trans s23).trans s4).free nl)
      · rw [upd_ne dl, upd_same, List.map_reverse]
      · rw [upd_ne (ne_of_none (s1 b o e) nd)]
        exact s15 b o e
end
end K09

namespace K09
open PySem PySem.Spec PyProof.Rows L2
abbrev rInt1 : List V → Hp → VK → Prop := fun xs H Q => (∃ i, xs = [.int i] ∧ Q (.int i) H) ∨ ∃ k, xs = [.bl k] ∧ Q (.int (if k then 1 else 0)) H
theorem gcdI_zero {a : Int} (h : 0 ≤ a) : gcdI a 0 = a := by
  unfold gcdI
  simp
  omega
theorem gcdI_step {a b : Int} (ha : 0 ≤ a) (hb : 0 < b) : gcdI b (a % b) = gcdI a b := by
  obtain ⟨m, rfl⟩ := Int.eq_ofNat_of_zero_le ha
  obtain ⟨n, rfl⟩ := Int.eq_ofNat_of_zero_le (show 0 ≤ b by omega)
  unfold gcdI
  have e : ((m : Int) % (n : Int)).natAbs = m % n := by
    rw [← Int.natCast_emod]
    rfl
  show ((Nat.gcd n ((m : Int) % (n : Int)).natAbs : Nat) : Int) = ((Nat.gcd m n : Nat) : Int)
  rw [e, Nat.gcd_comm n, ← Nat.gcd_rec, Nat.gcd_comm]
theorem gcdI_abs (a b : Int) : gcdI (if a < 0 then -a else a) (if b < 0 then -b else b) = gcdI a b := by
  unfold gcdI
  congr 2
  · split <;> omega
  · split <;> omega
section
variable {P : Program} {w : World} {K : PySem.W.Frag} {mg : Str → Option Value} {base : Heap} {f f1 f2 f3 f4 f5 : Addr} {fd fd1 fd2 fd3 fd4 fd5 : FuncData}
/-! ### _law_common -/
def spGcd : Sp := fun vs H Q _ => ∃ a b : Int, vs = [.int a, .int b] ∧ Q (.int (gcdI a b)) H
theorem scGcd : FnScope ["one", "other"] ["one", "other"] (defScope sLGcd) := ⟨rfl, rfl, rfl, by decide +kernel, rfl, by decide +kernel, by decide +kernel⟩
theorem ok_gcd (F : FnP K "_law_gcd" sLGcd f fd) (B : Bl mg) : FnOk P w K mg base CX0 1 f fd ["one", "other"] spGcd := by
  refine F.ok scGcd (fun vs H Q E h => ?_) (fun cdv A outer s H vs Q E hr h => ?_)
  · obtain ⟨a, b, rfl, _⟩ := h
    rfl
  · obtain ⟨a, b, rfl, k⟩ := h
    refine ⟨_, PSs.nox (pss_cons (ps_par (i := 0) (j := 1) rfl scGcd.nd rfl rfl (by decide) rfl rfl (pa_cons (pe_callB call_abs (by rfl) (B "abs" (by decide +kernel)) (by decide +kernel) (pa_cons (pv 0) pa_nil)) (pa_cons (pe_callB call_abs (by rfl) (B "abs" (by decide +kernel)) (by decide +kernel) (pa_cons (pv 1) pa_nil)) pa_nil)) rfl)
      (pss_cons (ps_while PassesOwn.never (pt_cmpR op_ne (pv 1) pe_int (nomark _))
        (pss_one (ps_par (i := 0) (j := 1) rfl scGcd.nd rfl rfl (by decide) rfl rfl (pa_cons (pv 1) (pa_cons (pe_op op_mod (pe_callTy call_int1 (by rfl) (B "int" (by decide +kernel)) (by decide +kernel) (pa_cons (pv 0) pa_nil)) (pv 1)) pa_nil)) rfl)))
      (pss_one (ps_ret (pv 0))))), ?_⟩
    refine ⟨_, rfl, a, rfl, _, rfl, b, rfl, _, _, rfl, ?_⟩
    refine while_by (fun σ H2 => ∃ x y : Int, σ = [some (.int x), some (.int y)] ∧ H2 = H ∧ 0 ≤ x ∧ 0 ≤ y ∧ gcdI x y = gcdI a b) (fun σ _ => match σ with | [_, some (.int y)] => y.toNat | _ => 0) ⟨_, _, rfl, rfl, by split <;> omega, by split <;> omega, gcdI_abs a b⟩ ?_ ?_
    · rintro σ H2 ⟨x, y, rfl, rfl, hx, hy, hg⟩
      refine ⟨_, rfl, rfl, _, rfl, ?_⟩
      refine ite2 (fun c => ?_) (fun c => ?_)
      · have c1 : y ≠ 0 := fun z => by
          rw [z] at c
          simp at c
        have hy2 : 0 < y := by omega
        have m0 := Int.emod_nonneg x c1
        have m1 := Int.emod_lt_of_pos x hy2
        refine ⟨_, rfl, _, rfl, Or.inl ⟨_, rfl, _, rfl, _, _, rfl, rfl, hy2, _, _, rfl, ?_⟩⟩
        refine ⟨⟨y, x % y, rfl, rfl, hy, m0, by rw [gcdI_step hx hy2]; exact hg⟩, ?_⟩
        show (x % y).toNat < y.toNat
        omega
      · have c1 : y = 0 := by
          by_cases z : y = 0
          · exact z
          · exact absurd (by simp [z]) c
        subst c1
        refine ⟨_, rfl, ?_⟩
        have e : x = gcdI a b := by rw [← hg, gcdI_zero hx]
        rw [e]
        exact k
    · intro σ H2 Q1 Q2 hq hc
      obtain ⟨v, e1, e2, kk, e3, e4⟩ := hc
      exact ⟨v, e1, e2, kk, e3, hq _ _ e4⟩
theorem rr_ord2 : ∀ r ∈ RR, ∀ i ∈ List.range r.length, 1 ≤ gcdI (ordL (r.take i)) (r.getD i 0) ∧ gcdI (ordL (r.take i)) (r.getD i 0) ≤ 60 ∧ 1 ≤ ordL (r.take i) ∧ ordL (r.take i) ≤ 60 ∧ ordL (r.take i) * (r.getD i 0 / gcdI (ordL (r.take i)) (r.getD i 0)) = ordL (r.take (i + 1)) := by decide +kernel
def spLOrder (K : PySem.W.Frag) : Sp := fun vs H Q _ => ∃ (v : V) (r : List Int), vs = [v] ∧ TupI K H v r ∧ r ∈ RR ∧ ∀ H', Same H H' → Q (.int (ordL r)) H'
theorem scLOrder : FnScope ["rings", "found", "length"] ["rings"] (defScope sLOrder) := ⟨rfl, rfl, rfl, by decide +kernel, rfl, by decide +kernel, by decide +kernel⟩
theorem ok_lOrder (F : FnP K "_law_order" sLOrder f fd) (F1 : FnP K "_law_gcd" sLGcd f1 fd1) (g1 : mg "_law_gcd" = some (.ref f1)) (G1 : FnOk P w K mg base CX0 1 f1 fd1 ["one", "other"] spGcd) : FnOk P w K mg base CX0 2 f fd ["rings"] (spLOrder K) := by
  have b1 : Binds K fd1 ["one", "other"] [] := F1.bindsN fun _ _ _ _ _ _ us hl => match us, hl with | [_, _], _ => rfl
  refine F.ok scLOrder (fun vs H Q E h => ?_) (fun cdv A outer s H vs Q E hr h => ?_)
  · obtain ⟨v, r, rfl, _⟩ := h
    rfl
  · obtain ⟨v, r, rfl, ⟨a, rfl, ha⟩, h14, k⟩ := h
    refine ⟨_, PSs.nox (pss_cons (ps_set (i := 1) scLOrder.nd rfl (Or.inl rfl) pe_int)
      (pss_cons (ps_for PassesOwn.never rfl (pi_tup (pv 0)) (pg_name (i := 2) scLOrder.nd rfl (Or.inl rfl)) (pss_one (ps_set (i := 1) scLOrder.nd rfl (Or.inl rfl) (pe_op op_mul (pv 1) (pe_op op_fdiv (pv 2) (pe_call G1 hr rfl g1 F1.kp b1 .nil pass0 (pa_cons (pv 1) (pa_cons (pv 2) pa_nil))))))))
      (pss_one (ps_ret (pv 1))))), ?_⟩
    refine ⟨_, rfl, a, rfl, ⟨_, ha⟩, for_tup (K := K) (a := a) (xs := r.map V.int) (fun i σ H2 => ∃ u, σ = [some (.ref a), some (.int (ordL (r.take i))), u] ∧ H2 = H) ⟨none, rfl, rfl⟩ (fun i σ H2 _ ⟨_, _, e⟩ => by rw [e]; exact ha) ?_ ?_⟩
    · rintro i y σ H2 hi ⟨u, rfl, rfl⟩
      obtain ⟨n, rfl, hn⟩ := getI hi
      have z := rr_ord2 r h14 i (List.mem_range.mpr (ltL hn))
      have e1 : r.getD i 0 = n := by rw [List.getD_eq_getElem?_getD, hn]; rfl
      rw [e1] at z
      refine ⟨_, rfl, _, rfl, _, rfl, _, rfl, _, _, rfl, _, _, rfl, rfl, ⟨by omega, by omega⟩, _, _, rfl, rfl, Or.inl ⟨by omega, by omega⟩, ?_⟩
      refine ⟨some (.int n), ?_, rfl⟩
      rw [← z.2.2.2.2]
      rfl
    · rintro σ H2 ⟨u, rfl, rfl⟩
      rw [List.length_map, List.take_length]
      exact ⟨_, rfl, k H2 (Same.refl _)⟩
end
end K09

/-! The law's places. -/
namespace K09
open PySem PySem.Spec PyProof.Rows L2
theorem rf_append (k6 k5 : List (Addr × List Int)) : rf (k6 ++ k5) = rf k6 ++ rf k5 := by simp [rf]
section
variable {P : Program} {w : World} {K : PySem.W.Frag} {mg : Str → Option Value} {base : Heap} {f f1 f2 f3 f4 f5 : Addr} {fd fd1 fd2 fd3 fd4 fd5 : FuncData}
def spLPl (K : PySem.W.Frag) : Sp := fun vs H Q _ => ∃ (v : V) (r : List Int), vs = [v] ∧ TupI K H v r ∧ r ∈ RR ∧ ∀ l H', Same H H' → PlL K H' l (placesL r) → Q (.ref l) H'
abbrev plN : List Str := ["rings", "found", "length", "longer", "place", "x"]
theorem scLPl : FnScope plN ["rings"] (defScope sLPlaces) := ⟨rfl, rfl, rfl, by decide +kernel, rfl, by decide +kernel, by decide +kernel⟩
theorem ok_lPl (F : FnP K "_law_places" sLPlaces f fd) (B : Bl mg) : FnOk P w K mg base CX0 1 f fd ["rings"] (spLPl K) := by
  refine F.ok scLPl (fun vs H Q E h => ?_) (fun cdv A outer s H vs Q E hr h => ?_)
  · obtain ⟨v, r, rfl, _⟩ := h
    rfl
  · obtain ⟨v, r, rfl, ⟨a, rfl, ha⟩, h14, k⟩ := h
    refine ⟨_, PSs.nox (pss_cons (ps_set (i := 1) scLPl.nd rfl (Or.inl rfl) (pe_lst (pa_cons (pe_tup pa_nil) pa_nil)))
      (pss_cons (ps_for PassesOwn.never rfl (pi_tup (pv 0)) (pg_name (i := 2) scLPl.nd rfl (Or.inl rfl))
        (pss_cons (ps_set (i := 3) scLPl.nd rfl (Or.inl rfl) (pe_lst pa_nil))
        (pss_cons (ps_for PassesOwn.never rfl (pi_list (pv 1)) (pg_name (i := 4) scLPl.nd rfl (Or.inr rfl))
          (pss_one (ps_expr (pe_bm PySem.F.plainAttrs_list PySem.F.slot_list_extend PySem.F.type_list_extend mt_extend (pv 3) (pa_cons
            (pe_lc (own := [("x", 5)]) (g := gName 5) (tt := tYes) (te := tOp (rCatA K) (tVar 4) (tTup (tCons (tVar 5) tNil))) rfl scLPl.nd (pi_range1 rfl (B "range" (by decide +kernel)) (pa_cons (pv 2) pa_nil))
              (blkOk_by (own := [("x", 5)]) (N := plN) (sc := defScope sLPlaces) (by decide +kernel)) (fun _ _ _ _ _ => pg_name (i := 5) scLPl.nd rfl (Or.inl rfl)) (fun _ _ _ _ _ => pts_nil) (fun _ _ _ _ _ => pe_op op_catA (pv 4) (pe_tup (pa_cons (pv 5) pa_nil)))) pa_nil)))))
        (pss_one (ps_set (i := 1) scLPl.nd rfl (Or.inl rfl) (pv 3))))))
      (pss_one (ps_ret (pv 1))))), ?_⟩
    have hn := rr_len r h14
    refine ⟨by decide, fun t ht => ⟨by show 1 ≤ sizeLine; decide, fun L hL => ?_⟩⟩
    have s3 : Same H (upd (upd H t (.tup [])) L (.lst [.ref t])) := same_new (same_upd ht) hL
    refine ⟨_, rfl, a, rfl, ⟨_, s3.tup ha⟩, for_tup (K := K) (a := a) (xs := r.map V.int) (fun i σ H3 => ∃ (l : Addr) (u v z : Option V), σ = [some (.ref a), some (.ref l), u, v, z, none] ∧ Same H H3 ∧ PlL K H3 l (placesL (r.take i)))
      ⟨L, none, none, none, rfl, s3, [(t, [])], upd_same, rfl, ⟨fun p hp => by rw [List.mem_singleton.mp hp]; exact same_upd hL _ _ upd_same⟩⟩ (fun i σ H3 _ ⟨_, _, _, _, _, z, _⟩ => z.tup ha) ?_ ?_⟩
    · rintro i y σ H3 hi ⟨l, u1, v1, z1, rfl, s4, ks, hk, em, tk⟩
      obtain ⟨c, rfl, hc⟩ := getI hi
      have cb := rr_pos r h14 c (List.mem_of_getElem? hc)
      have hlt := ltL hc
      have l1 := rr_pl r h14 i (List.mem_range.mpr (by omega))
      refine ⟨by decide, fun G hG => ?_⟩
      have nG : H G = none := s4.free hG
      have s5 : Same H3 (upd H3 G (.lst [])) := same_upd hG
      refine ⟨_, rfl, l, rfl, ⟨_, SqL.of (s5 _ _ hk)⟩, for_list (K := K) (a := l) (xs := rf ks) (fun m σ H4 => ∃ z, σ = [some (.ref a), some (.ref l), some (.int c), some (.ref G), z, none] ∧ Same H3 H4 ∧ PlL K H4 G (plStep ((placesL (r.take i)).take m) c)) ⟨z1, rfl, s5, [], upd_same, rfl, tp_nil⟩ (fun m σ H4 _ ⟨_, _, z, _⟩ => SqL.of (z _ _ hk)) ?_ ?_⟩
      · rintro m y σ H4 hm ⟨z, rfl, s6, k6, h6, e6, t6⟩
        obtain ⟨q, rfl, hq⟩ := getR hm
        have hq2 := map_get em hq
        have tq := tk q (List.mem_of_getElem? hq)
        have zl := rr_plen r h14 i (List.mem_range.mpr (by omega)) _ (List.mem_of_getElem? hq2)
        have ml : m < 60 := Nat.lt_of_lt_of_le (ltL hq2) l1
        refine ⟨_, rfl, Or.inl ⟨rfl, _, SqL.of h6⟩, ?_⟩
        refine ⟨_, rfl, c, rfl, by omega, by omega, fun D hD => ?_⟩
        refine lc_range (lo := 0) (n := c.toNat) (fun j H5 => Same H4 H5 ∧ ∃ k5, H5 D = some (.lst (rf k5)) ∧ k5.map (·.2) = (rgL 0 j).map (fun x => q.2 ++ [x]) ∧ TP K H5 k5) ⟨same_upd hD, [], upd_same, rfl, tp_nil⟩ ?_ ?_
        · rintro j H5 hj ⟨s7, k5, h5, e5, t5⟩
          have l5 : k5.length = j := by
            have z := congrArg List.length e5
            rw [List.length_map, List.length_map, rgL_len] at z
            exact z
          refine ⟨rfl, _, rfl, _, rfl, by show 1 ≤ sizeLine; decide, fun p hp => ?_⟩
          have s8 : Same H5 (upd H5 p (.tup [.int (0 + (j : Int))])) := same_upd hp
          have tq5 : SqT K (upd H5 p (.tup [.int (0 + (j : Int))])) q.1 (q.2.map V.int) := ((s6.trans s7).trans s8).tup tq
          have h5p : upd H5 p (.tup [.int (0 + (j : Int))]) D = some (.lst (rf k5)) := s8 _ _ h5
          refine ⟨q.1, p, _, _, rfl, rfl, tq5, SqT.of upd_same, sl_1000 (by simp; omega), fun en => ?_, fun _ e => absurd e (by simp), fun en _ p2 hp2 => ?_⟩
          · have e0 : q.2 = [] := by simpa using en
            refine ⟨_, h5p, sl_lt (by rw [List.length_map]; omega), same_at (s7.trans s8) hD, k5 ++ [(p, q.2 ++ [0 + (j : Int)])], ?_, ?_, tp_at (tp_snoc (tp_same s8 t5) (by rw [e0]; exact upd_same)) h5p⟩
            · rw [upd_same, rf_snoc]
            · rw [List.map_append, e5, rgL_succ, List.map_append]
              rfl
          · have s9 : Same (upd H5 p (.tup [.int (0 + (j : Int))])) (upd (upd H5 p (.tup [.int (0 + (j : Int))])) p2 (.tup (q.2.map V.int ++ [.int (0 + (j : Int))]))) := same_upd hp2
            have h52 := s9 _ _ h5p
            refine ⟨_, h52, sl_lt (by rw [List.length_map]; omega), same_at ((s7.trans s8).trans s9) hD, k5 ++ [(p2, q.2 ++ [0 + (j : Int)])], ?_, ?_, tp_at (tp_snoc (tp_same (s8.trans s9) t5) (by rw [upd_same, List.map_append]; rfl)) h52⟩
            · rw [upd_same, rf_snoc]
            · rw [List.map_append, e5, rgL_succ, List.map_append]
              rfl
        · rintro H5 ⟨s7, k5, h5, e5, t5⟩
          have l5 : k5.length = c.toNat := by
            have z := congrArg List.length e5
            rw [List.length_map, List.length_map, rgL_len] at z
            exact z
          have l6 : k6.length ≤ 3600 := by
            have z := congrArg List.length e6
            rw [List.length_map, plStep_len] at z
            have z2 : ((placesL (r.take i)).take m).length ≤ 60 := Nat.le_trans (List.length_take_le' _ _) l1
            have z3 : ((placesL (r.take i)).take m).length * c.toNat ≤ 60 * 60 := Nat.mul_le_mul z2 (by omega)
            omega
          have hGne : H3 G = none := hG
          refine ⟨G, D, _, _, rfl, rfl, s7 _ _ h6, h5, sl_1000 (by rw [List.length_map, List.length_map]; omega), ?_⟩
          refine ⟨_, rfl, same_at (s6.trans s7) hG, k6 ++ k5, ?_, ?_, tp_at ⟨fun p hp => ?_⟩ (s7 _ _ h6)⟩
          · rw [upd_same, rf_append]
          · rw [List.map_append, e6, e5, plStep_take hq2]
          · rcases List.mem_append.mp hp with z | z
            · exact s7 _ _ (t6.out p z)
            · exact t5.out p z
      · rintro σ H4 ⟨z, rfl, s6, P6⟩
        have e6 : (rf ks).length = (placesL (r.take i)).length := by rw [← em, List.length_map, List.length_map]
        rw [e6, List.take_length] at P6
        refine ⟨_, rfl, G, _, _, _, rfl, s4.trans s6, ?_⟩
        rw [pl_take hc]
        exact P6
    · rintro σ H3 ⟨l, u1, v1, z1, rfl, s4, P4⟩
      rw [List.length_map, List.take_length] at P4
      exact ⟨_, rfl, k l H3 s4 P4⟩
end
end K09

/-! The law's rings. -/
namespace K09
open PySem PySem.Spec PyProof.Rows L2
/-! ### decks and floors -/
theorem deck_ref {d l : Addr} {H : Hp} (D : DeckAt d l H) : (∃ m k, H d = some (.dK (deckKV l m k))) ∧ ∃ ns : List Int, H l = some (.lst (ns.map V.int)) := by
  obtain ⟨ns, m, k, h1, h2, _⟩ := D
  exact ⟨⟨m, k, h1⟩, ns, h2⟩
theorem _root_.L2.Same.deck {d l : Addr} {H H' : Hp} (s : Same H H') (D : DeckAt d l H) : DeckAt d l H' := by
  obtain ⟨ns, m, k, h1, h2, h3⟩ := D
  exact ⟨ns, m, k, s _ _ h1, s _ _ h2, h3⟩
section
variable {K : PySem.W.Frag} {d l : Addr} {H H' : Hp}
theorem Keeps.sqt (k : Keeps d l H H') (D : DeckAt d l H) {a : Addr} {xs : List V} (h : SqT K H a xs) : SqT K H' a xs := by
  obtain ⟨⟨m, j, h1⟩, ns, h2⟩ := deck_ref D
  rcases h with h | h
  · rcases h with h | ⟨o, h⟩
    · exact .inl (.inl (k _ _ h (ne_of h h1 (by intro z; cases z)) (ne_of h h2 (by intro z; cases z))))
    · exact .inl (.inr ⟨o, k _ _ h (ne_of h h1 (by intro z; cases z)) (ne_of h h2 (by intro z; cases z))⟩)
  · exact .inr h
theorem Keeps.tupI (k : Keeps d l H H') (D : DeckAt d l H) {v : V} {ns : List Int} (h : TupI K H v ns) : TupI K H' v ns := by
  obtain ⟨t, rfl, q⟩ := h
  exact ⟨t, rfl, k.sqt D q⟩
end
def tInts : List Int → TA
  | [] => tNil
  | n :: ns => tCons (tC (.int n)) (tInts ns)
def tTups : List (List Int) → TA
  | [] => tNil
  | r :: rs => tCons (tTup (tInts r)) (tTups rs)
theorem ints_ok : ∀ {ns : List Int} {σ : L2.St} {H : Hp} {Q : List V → Hp → Prop}, Q (ns.map V.int) H → tInts ns σ H Q
  | [], _, _, _, q => q
  | n :: ns, σ, H, Q, q => ints_ok (ns := ns) (Q := fun vs H1 => Q (.int n :: vs) H1) q
theorem tups_ok {K : PySem.W.Frag} : ∀ {rs : List (List Int)} {σ : L2.St} {H : Hp} {Q : List V → Hp → Prop}, (∀ r ∈ rs, r.length ≤ 1000) → (∀ ks H', Same H H' → TL K H' ks → ks.map (·.2) = rs → Q (rf ks) H') → tTups rs σ H Q
  | [], σ, H, Q, _, q => q [] H (Same.refl H) tl_nil rfl
  | r :: rs, σ, H, Q, h, q => by
    show tInts r σ H fun xs H1 => xs.length ≤ sizeLine ∧ ∀ p, H1 p = none → tTups rs σ (upd H1 p (.tup xs)) fun vs H2 => Q (.ref p :: vs) H2
    refine ints_ok ⟨sl_1000 (by rw [List.length_map]; have := h r List.mem_cons_self; omega), fun p hp => ?_⟩
    have s1 : Same H (upd H p (.tup (r.map V.int))) := same_upd hp
    refine tups_ok (K := K) (fun x hx => h x (List.mem_cons_of_mem _ hx)) fun ks H' s2 ht e => ?_
    refine q ((p, r) :: ks) H' (s1.trans s2) (fun y hy => ?_) (by rw [List.map_cons, e])
    rcases List.mem_cons.mp hy with rfl | hy
    · exact SqT.of (s2 _ _ upd_same)
    · exact ht y hy
def rg1 : List (List Int) := [[2], [3], [4], [5], [6], [2, 2], [2, 3], [7], [8], [2, 4], [3, 3], [2, 2, 2], [9], [10], [12], [2, 6], [3, 4]]
def rg2 : List (List Int) := [[4, 4], [16], [2, 2, 3], [2, 8], [2, 2, 2, 2], [15], [3, 5], [13], [5, 5], [60], [6, 10], [4, 3, 5], [2, 30], [59]]
theorem tups1 : (tCons (tTup (tCons (tC (.int 2)) tNil)) (tCons (tTup (tCons (tC (.int 3)) tNil)) (tCons (tTup (tCons (tC (.int 4)) tNil)) (tCons (tTup (tCons (tC (.int 5)) tNil)) (tCons (tTup (tCons (tC (.int 6)) tNil)) (tCons (tTup (tCons (tC (.int 2)) (tCons (tC (.int 2)) tNil))) (tCons (tTup (tCons (tC (.int 2)) (tCons (tC (.int 3)) tNil))) (tCons (tTup (tCons (tC (.int 7)) tNil)) (tCons (tTup (tCons (tC (.int 8)) tNil)) (tCons (tTup (tCons (tC (.int 2)) (tCons (tC (.int 4)) tNil))) (tCons (tTup (tCons (tC (.int 3)) (tCons (tC (.int 3)) tNil))) (tCons (tTup (tCons (tC (.int 2)) (tCons (tC (.int 2)) (tCons (tC (.int 2)) tNil)))) (tCons (tTup (tCons (tC (.int 9)) tNil)) (tCons (tTup (tCons (tC (.int 10)) tNil)) (tCons (tTup (tCons (tC (.int 12)) tNil)) (tCons (tTup (tCons (tC (.int 2)) (tCons (tC (.int 6)) tNil))) (tCons (tTup (tCons (tC (.int 3)) (tCons (tC (.int 4)) tNil))) tNil))))))))))))))))) = tTups rg1 := rfl
theorem tups2 : (tCons (tTup (tCons (tC (.int 4)) (tCons (tC (.int 4)) tNil))) (tCons (tTup (tCons (tC (.int 16)) tNil)) (tCons (tTup (tCons (tC (.int 2)) (tCons (tC (.int 2)) (tCons (tC (.int 3)) tNil)))) (tCons (tTup (tCons (tC (.int 2)) (tCons (tC (.int 8)) tNil))) (tCons (tTup (tCons (tC (.int 2)) (tCons (tC (.int 2)) (tCons (tC (.int 2)) (tCons (tC (.int 2)) tNil))))) (tCons (tTup (tCons (tC (.int 15)) tNil)) (tCons (tTup (tCons (tC (.int 3)) (tCons (tC (.int 5)) tNil))) (tCons (tTup (tCons (tC (.int 13)) tNil)) (tCons (tTup (tCons (tC (.int 5)) (tCons (tC (.int 5)) tNil))) (tCons (tTup (tCons (tC (.int 60)) tNil)) (tCons (tTup (tCons (tC (.int 6)) (tCons (tC (.int 10)) tNil))) (tCons (tTup (tCons (tC (.int 4)) (tCons (tC (.int 3)) (tCons (tC (.int 5)) tNil)))) (tCons (tTup (tCons (tC (.int 2)) (tCons (tC (.int 30)) tNil))) (tCons (tTup (tCons (tC (.int 59)) tNil)) tNil)))))))))))))) = tTups rg2 := rfl
theorem lst_tups {K : PySem.W.Frag} {t : TA} {rs : List (List Int)} {σ : L2.St} {H : Hp} {Q : VK} (e : t = tTups rs) (h : ∀ r ∈ rs, r.length ≤ 1000) (hl : rs.length ≤ 1000) (q : ∀ p ks H', Same H H' → TL K H' ks → ks.map (·.2) = rs → H p = none → H' p = some (.lst (rf ks)) → Q (.ref p) H') : tLst t σ H Q := by
  subst e
  refine tups_ok (K := K) (rs := rs) (σ := σ) (H := H) (Q := fun xs H1 => xs.length ≤ sizeLine ∧ ∀ p, H1 p = none → Q (.ref p) (upd H1 p (.lst xs))) h fun ks H1 s1 tl e => ⟨?_, fun p hp => ?_⟩
  · have := congrArg List.length e
    rw [List.length_map] at this
    rw [List.length_map, this]
    exact sl_1000 (by omega)
  · exact q p ks _ (same_new s1 hp) ((same_upd hp).tl tl) e (s1.free hp) upd_same
theorem rg_ok : ∀ r ∈ rg1 ++ rg2, sizeL r ≤ 16 → r ∈ RR := by decide +kernel
theorem rg_two : ∀ m ∈ [6, 8, 9, 12, 16], ∃ r ∈ rg1 ++ rg2, sizeL r ≤ (m : Int) := fun m _ => ⟨[2], by decide, by
  have : ∀ m ∈ [6, 8, 9, 12, 16], sizeL [2] ≤ (m : Int) := by decide
  exact this m (by assumption)⟩
theorem rg_small : ∀ r ∈ rg1 ++ rg2, r.length ≤ 4 ∧ ∀ i ∈ List.range (r.length + 1), 1 ≤ sizeL (r.take i) ∧ sizeL (r.take i) ≤ 60 := by decide +kernel
end K09

namespace K09
open PySem PySem.Spec PyProof.Rows L2
theorem seq_asg {te : TE} {g : TG} {t : TS} {D : Ends} {σ : L2.St} {H : Hp} (h : te σ H fun v H1 => g v σ H1 fun σ2 H2 => t D σ2 H2) : tSeq (tAsg te g) t D σ H := h
section
variable {P : Program} {w : World} {K : PySem.W.Frag} {mg : Str → Option Value} {base : Heap} {f f1 f2 f3 f4 f5 : Addr} {fd fd1 fd2 fd3 fd4 fd5 : FuncData}
def spLRings (K : PySem.W.Frag) : Sp := fun vs H Q _ => ∃ (d l : Addr) (m : Int), vs = [.ref d, .int m] ∧ DeckAt d l H ∧ m ∈ ([6, 8, 9, 12, 16] : List Int) ∧ ∀ v r H', DeckAt d l H' → Keeps d l H H' → TupI K H' v r → r ∈ RR → Q v H'
abbrev rgN : List Str := ["deck", "most", "some", "fit", "rings", "size", "length"]
theorem scLRings : FnScope rgN ["deck", "most"] (defScope sLRings) := ⟨rfl, rfl, rfl, by decide +kernel, rfl, by decide +kernel, by decide +kernel⟩
theorem ok_lRings (F : FnP K "_law_rings" sLRings f fd) (F1 : FnP K "_law_pick" sPick f1 fd1) (g1 : mg "_law_pick" = some (.ref f1)) (G1 : FnOk P w K mg base CX0 2 f1 fd1 ["deck", "some"] (spPick K)) : FnOk P w K mg base CX0 3 f fd ["deck", "most"] (spLRings K) := by
  have b1 : Binds K fd1 ["deck", "some"] [] := F1.bindsN fun _ _ _ _ _ _ us hl => match us, hl with | [_, _], _ => rfl
  refine F.ok scLRings (fun vs H Q E h => ?_) (fun cdv A outer s H vs Q E hr h => ?_)
  · obtain ⟨d, l, m, rfl, _⟩ := h
    rfl
  · obtain ⟨d, l, m, rfl, D, hm, k⟩ := h
    refine ⟨_, PSs.nox (pss_cons (ps_set (i := 2) scLRings.nd rfl (Or.inl rfl) (pe_lst (pa_cons (pe_tup (pa_cons pe_int pa_nil)) (pa_cons (pe_tup (pa_cons pe_int pa_nil)) (pa_cons (pe_tup (pa_cons pe_int pa_nil)) (pa_cons (pe_tup (pa_cons pe_int pa_nil)) (pa_cons (pe_tup (pa_cons pe_int pa_nil)) (pa_cons (pe_tup (pa_cons pe_int (pa_cons pe_int pa_nil))) (pa_cons (pe_tup (pa_cons pe_int (pa_cons pe_int pa_nil))) (pa_cons (pe_tup (pa_cons pe_int pa_nil)) (pa_cons (pe_tup (pa_cons pe_int pa_nil)) (pa_cons (pe_tup (pa_cons pe_int (pa_cons pe_int pa_nil))) (pa_cons (pe_tup (pa_cons pe_int (pa_cons pe_int pa_nil))) (pa_cons (pe_tup (pa_cons pe_int (pa_cons pe_int (pa_cons pe_int pa_nil)))) (pa_cons (pe_tup (pa_cons pe_int pa_nil)) (pa_cons (pe_tup (pa_cons pe_int pa_nil)) (pa_cons (pe_tup (pa_cons pe_int pa_nil)) (pa_cons (pe_tup (pa_cons pe_int (pa_cons pe_int pa_nil))) (pa_cons (pe_tup (pa_cons pe_int (pa_cons pe_int pa_nil))) pa_nil)))))))))))))))))))
      (pss_cons (ps_set (i := 2) scLRings.nd rfl (Or.inl rfl) (pe_op op_cat (pv 2) (pe_lst (pa_cons (pe_tup (pa_cons pe_int (pa_cons pe_int pa_nil))) (pa_cons (pe_tup (pa_cons pe_int pa_nil)) (pa_cons (pe_tup (pa_cons pe_int (pa_cons pe_int (pa_cons pe_int pa_nil)))) (pa_cons (pe_tup (pa_cons pe_int (pa_cons pe_int pa_nil))) (pa_cons (pe_tup (pa_cons pe_int (pa_cons pe_int (pa_cons pe_int (pa_cons pe_int pa_nil))))) (pa_cons (pe_tup (pa_cons pe_int pa_nil)) (pa_cons (pe_tup (pa_cons pe_int (pa_cons pe_int pa_nil))) (pa_cons (pe_tup (pa_cons pe_int pa_nil)) (pa_cons (pe_tup (pa_cons pe_int (pa_cons pe_int pa_nil))) (pa_cons (pe_tup (pa_cons pe_int pa_nil)) (pa_cons (pe_tup (pa_cons pe_int (pa_cons pe_int pa_nil))) (pa_cons (pe_tup (pa_cons pe_int (pa_cons pe_int (pa_cons pe_int pa_nil)))) (pa_cons (pe_tup (pa_cons pe_int (pa_cons pe_int pa_nil))) (pa_cons (pe_tup (pa_cons pe_int pa_nil)) pa_nil)))))))))))))))))
      (pss_cons (ps_set (i := 3) scLRings.nd rfl (Or.inl rfl) (pe_lst pa_nil))
      (pss_cons (ps_for PassesOwn.never rfl (pi_list (pv 2)) (pg_name (i := 4) scLRings.nd rfl (Or.inl rfl))
        (pss_cons (ps_set (i := 5) scLRings.nd rfl (Or.inl rfl) pe_int)
        (pss_cons (ps_for PassesOwn.never rfl (pi_tup (pv 4)) (pg_name (i := 6) scLRings.nd rfl (Or.inl rfl)) (pss_one (ps_set (i := 5) scLRings.nd rfl (Or.inl rfl) (pe_op op_mul (pv 5) (pv 6)))))
        (pss_one (ps_if (pt_cmpR op_le (pv 5) (pv 1) (nomark _)) (pss_one (ps_expr (pe_bm PySem.F.plainAttrs_list PySem.F.slot_list_append PySem.F.type_list_append mt_append (pv 3) (pa_cons (pv 4) pa_nil)))) pss_nil)))))
      (pss_one (ps_ret (pe_call G1 hr rfl g1 F1.kp b1 .nil pass0 (pa_cons (pv 0) (pa_cons (pv 3) pa_nil))))))))), ?_⟩
    have fst : ∀ (Q1 : VK), (∀ p ks H', Same H H' → TL K H' ks → ks.map (·.2) = rg1 → H p = none → H' p = some (.lst (rf ks)) → Q1 (.ref p) H') → tLst (tTups rg1) (start rgN [V.ref d, V.int m]) H Q1 := fun Q1 q => lst_tups (K := K) rfl (by decide) (by decide) q
    rw [← tups1] at fst
    refine seq_asg ?_
    refine fst _ fun p1 k1 H1 s1 t1 e1 n1 h1 => ?_
    have snd : ∀ (σ : L2.St) (Q1 : VK), (∀ p ks H', Same H1 H' → TL K H' ks → ks.map (·.2) = rg2 → H1 p = none → H' p = some (.lst (rf ks)) → Q1 (.ref p) H') → tLst (tTups rg2) σ H1 Q1 := fun σ Q1 q => lst_tups (K := K) rfl (by decide) (by decide) q
    rw [← tups2] at snd
    refine seq_asg ?_
    refine ⟨_, rfl, ?_⟩
    refine snd _ _ fun p2 k2 H2 s2 t2 e2 n2 h2 => ?_
    have l1 : k1.length = 17 := by
      have := congrArg List.length e1
      rw [List.length_map] at this
      exact this
    have l2 : k2.length = 14 := by
      have := congrArg List.length e2
      rw [List.length_map] at this
      exact this
    refine ⟨p1, p2, _, _, rfl, rfl, s2 _ _ h1, h2, sl_1000 (by rw [List.length_map, List.length_map]; omega), fun p3 hp3 => ?_⟩
    have s3 : Same H2 (upd H2 p3 (.lst (rf k1 ++ rf k2))) := same_upd hp3
    generalize hH3 : upd H2 p3 (.lst (rf k1 ++ rf k2)) = H3 at s3
    have h3 : H3 p3 = some (.lst (rf (k1 ++ k2))) := by rw [← hH3, upd_same, rf_append]
    have tk : TL K H3 (k1 ++ k2) := fun p hp => by
      rcases List.mem_append.mp hp with z | z
      · exact (s2.trans s3).tl t1 p z
      · exact s3.tl t2 p z
    have em : (k1 ++ k2).map (·.2) = rg1 ++ rg2 := by rw [List.map_append, e1, e2]
    have sA := (s1.trans s2).trans s3
    have mb : 6 ≤ m ∧ m ≤ 16 := by
      have : ∀ x ∈ ([6, 8, 9, 12, 16] : List Int), 6 ≤ x ∧ x ≤ 16 := by decide
      exact this m hm
    refine seq_asg ?_
    refine ⟨by decide, fun L hL => ?_⟩
    have sL : Same H3 (upd H3 L (.lst [])) := same_upd hL
    have nL : H L = none := sA.free hL
    refine ⟨_, rfl, p3, rfl, ⟨_, SqL.of (sL _ _ h3)⟩, for_list (K := K) (a := p3) (xs := rf (k1 ++ k2)) (fun i σ H4 => ∃ u4 u5 u6 kf, σ = [some (.ref d), some (.int m), some (.ref p3), some (.ref L), u4, u5, u6] ∧ Same H3 H4 ∧ H4 L = some (.lst (rf kf)) ∧ TL K H4 kf ∧ (∀ q ∈ kf, q.2 ∈ rg1 ++ rg2 ∧ sizeL q.2 ≤ m) ∧ kf.length ≤ i ∧ (1 ≤ i → 1 ≤ kf.length))
      ⟨none, none, none, [], rfl, sL, upd_same, tl_nil, fun q hq => absurd hq (by simp), Nat.le_refl _, fun z => absurd z (by decide)⟩ (fun i σ H4 _ ⟨_, _, _, _, _, s4, _⟩ => SqL.of (s4 _ _ h3)) ?_ ?_⟩
    · rintro i y σ H4 hi ⟨u4, u5, u6, kf, rfl, s4, h4, tf, mf, lf, of⟩
      obtain ⟨q, rfl, hq⟩ := getR hi
      have hqm := List.mem_of_getElem? hq
      have hq2 := map_get em hq
      have hqr : q.2 ∈ rg1 ++ rg2 := List.mem_of_getElem? hq2
      have qs := rg_small q.2 hqr
      have tq := s4.tup (tk q hqm)
      refine ⟨_, rfl, q.1, rfl, ⟨_, tq⟩, for_tup (K := K) (a := q.1) (xs := q.2.map V.int) (fun j σ H5 => ∃ v6, σ = [some (.ref d), some (.int m), some (.ref p3), some (.ref L), some (.ref q.1), some (.int (sizeL (q.2.take j))), v6] ∧ H5 = H4) ⟨u6, rfl, rfl⟩ (fun j σ H5 _ ⟨_, _, e⟩ => by rw [e]; exact tq) ?_ ?_⟩
      · rintro j y2 σ H5 hj ⟨v6, rfl, rfl⟩
        obtain ⟨n, rfl, hn⟩ := getI hj
        have z := qs.2 j (List.mem_range.mpr (by have := ltL hn; omega))
        refine ⟨_, rfl, _, rfl, _, _, rfl, rfl, Or.inl ⟨by omega, by omega⟩, some (.int n), ?_, rfl⟩
        rw [size_take hn]
        rfl
      · rintro σ H5 ⟨v6, rfl, rfl⟩
        rw [List.length_map, List.take_length]
        refine ⟨_, rfl, _, rfl, _, _, rfl, rfl, _, rfl, ?_⟩
        refine ite2 (fun c => ?_) (fun c => ?_)
        · have c1 : sizeL q.2 ≤ m := of_decide_eq_true c
          have h31 : (k1 ++ k2).length = 31 := by rw [List.length_append, l1, l2]
          have il := ltL hq
          refine ⟨_, rfl, Or.inl ⟨rfl, _, SqL.of h4⟩, _, rfl, L, _, _, rfl, rfl, h4, sl_lt (by rw [List.length_map]; omega), ?_⟩
          refine ⟨_, _, _, kf ++ [(q.1, q.2)], rfl, same_at s4 hL, ?_, tl_at (tl_snoc tf tq) h4, fun x hx => ?_, by rw [List.length_append]; show _ + 1 ≤ _; omega, fun _ => by rw [List.length_append]; show 1 ≤ _ + 1; omega⟩
          · rw [upd_same, rf_snoc]
          · rcases List.mem_append.mp hx with z | z
            · exact mf x z
            · rw [List.mem_singleton.mp z]
              exact ⟨hqr, c1⟩
        · refine ⟨_, _, _, kf, rfl, s4, h4, tf, mf, by omega, fun _ => ?_⟩
          by_cases hi0 : i = 0
          · subst hi0
            have e0 : q.2 = [2] := by
              have : (rg1 ++ rg2)[0]? = some [2] := rfl
              rw [hq2] at this
              exact Option.some.inj this
            have c1 : ¬ sizeL q.2 ≤ m := fun z => c (decide_eq_true z)
            rw [e0] at c1
            have : sizeL [2] = 2 := rfl
            omega
          · exact of (by omega)
    · rintro σ H4 ⟨u4, u5, u6, kf, rfl, s4, h4, tf, mf, lf, of⟩
      have hxl : (rf (k1 ++ k2)).length = 31 := by rw [List.length_map, List.length_append, l1, l2]
      rw [hxl] at lf of
      have sF := sA.trans s4
      have D4 := sF.deck D
      obtain ⟨_, ns, hd2⟩ := deck_ref D
      refine ⟨_, rfl, _, rfl, d, l, L, rf kf, rfl, D4, h4, (ne_of_none hd2 nL).symm, by rw [List.length_map]; exact of (by decide), by rw [List.length_map]; omega, fun v H5 hv D5 k5 => ?_⟩
      obtain ⟨q, hq, rfl⟩ := List.mem_map.mp hv
      obtain ⟨q1, q2⟩ := mf q hq
      exact k _ q.2 H5 D5 (fun b o e h1 h2 => k5 b o (sF b o e) h1 h2) ⟨q.1, rfl, k5.sqt D4 (tf q hq)⟩ (rg_ok q.2 q1 (by omega))
end
end K09

/-! The law's ring polynomials. -/
namespace K09
open PySem PySem.Spec PyProof.Rows L2
abbrev Ent := Addr × (Int × List Int)
abbrev entK (ts : List Ent) : List (Key × V) := ts.map fun x => ((Sum.inl x.2.1 : Key), V.ref x.1)
def EntAt (H : Hp) (ts : List Ent) : Prop := ∀ x ∈ ts, H x.1 = some (.lst (x.2.2.map V.int))
theorem ent_val : ∀ {ts : List Ent} {x : Ent}, (ts.map (·.2.1)).Nodup → x ∈ ts → valV (entK ts) (.inl x.2.1) = some (.ref x.1)
  | [], x, _, h => absurd h (by simp)
  | y :: ts, x, hn, h => by
    rw [List.map_cons, List.nodup_cons] at hn
    by_cases e : y.2.1 = x.2.1
    · rcases List.mem_cons.mp h with rfl | h
      · exact L2.valV_pos rfl
      · exact absurd (List.mem_map.mpr ⟨x, h, e.symm⟩) hn.1
    · rcases List.mem_cons.mp h with rfl | h
      · exact absurd rfl e
      · show valV ((Sum.inl y.2.1, V.ref y.1) :: entK ts) (.inl x.2.1) = _
        rw [L2.valV_neg (fun z => e (Sum.inl.inj z))]
        exact ent_val hn.2 h
theorem ent_put {ts : List Ent} {d : Int} {v : V} (h : d ∉ ts.map (·.2.1)) : putK (entK ts) (.inl d) v = entK ts ++ [(.inl d, v)] := by
  unfold putK
  rw [if_neg]
  rw [List.any_eq_true]
  rintro ⟨kv, h1, h2⟩
  obtain ⟨x, hx, rfl⟩ := List.mem_map.mp h1
  have := of_decide_eq_true h2
  exact h (List.mem_map.mpr ⟨x, hx, Sum.inl.inj this⟩)
section
variable {P : Program} {w : World} {K : PySem.W.Frag} {mg : Str → Option Value} {base : Heap} {f f1 f2 f3 f4 f5 : Addr} {fd fd1 fd2 fd3 fd4 fd5 : FuncData}
def spLRing (K : PySem.W.Frag) : Sp := fun vs H Q _ => ∃ e : Int, vs = [.int e] ∧ e ∈ ER ∧ ∀ l H', Same H H' → H l = none → H' l = some (.lst ((polyL e).map V.int)) → Q (.ref l) H'
abbrev lrN : List Str := ["e", "table", "d", "left", "c", "by", "found", "k", "top", "i", "x"]
theorem scLR : FnScope lrN ["e"] (defScope sLRing) := ⟨rfl, rfl, rfl, by decide +kernel, rfl, by decide +kernel, by decide +kernel⟩
theorem ok_lRing (F : FnP K "_law_ring" sLRing f fd) (B : Bl mg) : FnOk P w K mg base CX0 1 f fd ["e"] (spLRing K) := by
  refine F.ok scLR (fun vs H Q E h => ?_) (fun cdv A outer s H vs Q E hr h => ?_)
  · obtain ⟨e, rfl, _⟩ := h
    rfl
  · obtain ⟨e, rfl, he, k⟩ := h
    have hu := hu_of hr
    refine ⟨_, PSs.nox (pss_cons (ps_set (i := 1) scLR.nd rfl (Or.inl rfl) pe_dnewK)
      (pss_cons (ps_for PassesOwn.never rfl (pi_list (pe_lc (own := [("d", 2)]) (g := gName 2) (te := tVar 2) rfl scLR.nd (pi_range2 rfl (B "range" (by decide +kernel)) (pa_cons pe_int (pa_cons (pe_op op_add (pv 0) pe_int) pa_nil)))
            (blkOk_by (own := [("d", 2)]) (N := lrN) (sc := defScope sLRing) (by decide +kernel)) (fun _ _ _ _ _ => pg_name (i := 2) scLR.nd rfl (Or.inl rfl)) (fun _ _ _ _ _ => pts_one (pt_cmpR op_eq (pe_op op_mod (pe_callTy call_int1 (by rfl) (B "int" (by decide +kernel)) (by decide +kernel) (pa_cons (pv 0) pa_nil)) (pv 2)) pe_int (nomark _))) (fun _ _ _ _ _ => pv 2)))
          (pg_name (i := 2) scLR.nd rfl (Or.inr rfl))
        (pss_cons (ps_set (i := 3) scLR.nd rfl (Or.inl rfl) (pe_op op_cat (pe_op op_cat (pe_lst (pa_cons (pe_un un_neg pe_int) pa_nil)) (pe_op op_rep (pe_lst (pa_cons pe_int pa_nil)) (pe_op op_sub (pv 2) pe_int))) (pe_lst (pa_cons pe_int pa_nil))))
        (pss_cons (ps_for PassesOwn.never rfl (pi_list (pe_lc (own := [("c", 4)]) (g := gName 4) (te := tVar 4) rfl scLR.nd (pi_list (pe_callB cr_sorted (by rfl) (B "sorted" (by decide +kernel)) (by decide +kernel) (pa_cons (pe_callTy (call_list_dK rfl) (by rfl) (B "list" (by decide +kernel)) (by decide +kernel) (pa_cons (pv 1) pa_nil)) pa_nil)))
              (blkOk_by (own := [("c", 4)]) (N := lrN) (sc := defScope sLRing) (by decide +kernel)) (fun _ _ _ _ _ => pg_name (i := 4) scLR.nd rfl (Or.inl rfl)) (fun _ _ _ _ _ => pts_one (pt_cmpR op_eq (pe_op op_mod (pe_callTy call_int1 (by rfl) (B "int" (by decide +kernel)) (by decide +kernel) (pa_cons (pv 2) pa_nil)) (pv 4)) pe_int (nomark _))) (fun _ _ _ _ _ => pv 4)))
            (pg_name (i := 4) scLR.nd rfl (Or.inl rfl))
          (pss_cons (ps_par (i := 5) (j := 6) rfl scLR.nd rfl rfl (by decide) rfl rfl (pa_cons (pe_dget hu (pv 1) (pv 4) (fun _ _ => rfl)) (pa_cons (pe_lst pa_nil) pa_nil)) rfl)
          (pss_cons (ps_for PassesOwn.never rfl (pi_range3 rfl (B "range" (by decide +kernel)) (pa_cons (pe_op op_sub (pe_callB call_len_seq (by rfl) (B "len" (by decide +kernel)) PySem.boot_len (pa_cons (pv 3) pa_nil)) (pe_callB call_len_seq (by rfl) (B "len" (by decide +kernel)) PySem.boot_len (pa_cons (pv 5) pa_nil))) (pa_cons (pe_un un_neg pe_int) (pa_cons (pe_un un_neg pe_int) pa_nil))))
              (pg_name (i := 7) scLR.nd rfl (Or.inl rfl))
            (pss_cons (ps_set (i := 8) scLR.nd rfl (Or.inl rfl) (pe_ix ix_list (pv 3) (pe_op op_sub (pe_op op_add (pv 7) (pe_callB call_len_seq (by rfl) (B "len" (by decide +kernel)) PySem.boot_len (pa_cons (pv 5) pa_nil))) pe_int) (fun _ _ => rfl)))
            (pss_cons (ps_expr (pe_bm PySem.F.plainAttrs_list PySem.F.slot_list_append PySem.F.type_list_append mt_append (pv 6) (pa_cons (pv 8) pa_nil)))
            (pss_one (ps_for PassesOwn.never rfl (pi_enum (by rfl) (B "enumerate" (by decide +kernel)) (pa_cons (pv 5) pa_nil)) (pg_tup rfl (pgs_cons (pg_name (i := 9) scLR.nd rfl (Or.inl rfl)) (pgs_cons (pg_name (i := 10) scLR.nd rfl (Or.inl rfl)) pgs_nil)))
              (pss_one (ps_asg (pe_op op_sub (pe_ix ix_list (pv 3) (pe_op op_add (pv 7) (pv 9)) (fun _ _ => rfl)) (pe_op op_mul (pv 8) (pv 10))) (pg_sub (pv 3) (pe_op op_add (pv 7) (pv 9)) set_list))))))))
          (pss_one (ps_set (i := 3) scLR.nd rfl (Or.inl rfl) (pe_revL (pv 6)))))))
        (pss_one (ps_dput hu (pv 1) (pv 2) (pv 3) rfl)))))
      (pss_one (ps_ret (pe_dget hu (pv 1) (pv 0) (fun _ _ => rfl)))))), ?_⟩
    have eb := er_bd e he
    obtain ⟨db, dl, dpw, d1⟩ := lr_divs e he
    refine fun T hT => ?_
    have sT : Same H (upd H T (.dK [])) := same_upd hT
    refine ⟨_, rfl, _, _, rfl, rfl, 1, e + 1, rfl, ⟨by omega, by omega, by omega, by omega⟩, fun D hD => ?_⟩
    have hTD : T ≠ D := ne_of_none upd_same hD
    have en : (e + 1 - 1).toNat = e.toNat := by
      congr 1
      omega
    rw [en]
    refine lc_range (lo := 1) (n := e.toNat) (fun i H2 => Same H H2 ∧ H2 T = some (.dK []) ∧ H2 D = some (.lst (((rgL 1 i).filter fun d => decide (e % d = 0)).map V.int))) ⟨same_new sT hD, by rw [upd_ne hTD]; exact upd_same, upd_same⟩ ?_ ?_
    · rintro i H2 hi ⟨s2, hT2, h2⟩
      refine ⟨rfl, _, rfl, Or.inl ⟨_, rfl, _, rfl, _, _, rfl, rfl, (by show (0 : Int) < 1 + (i : Int); omega), rfl, _, rfl, ?_⟩⟩
      refine ite2 (fun c => ?_) (fun c => ?_)
      · have c1 : e % (1 + (i : Int)) = 0 := eqI c
        refine ⟨_, rfl, _, h2, sl_lt ?_, same_at s2 (sT.free hD), ?_, ?_⟩
        · rw [List.length_map]
          exact Nat.le_trans (List.length_filter_le _ _) (by rw [rgL_len]; omega)
        · rw [upd_ne hTD]
          exact hT2
        · rw [upd_same, rgF_succ, if_pos (decide_eq_true c1), List.map_append]
          rfl
      · have c1 := neI c
        refine ⟨s2, hT2, ?_⟩
        rw [h2, rgF_succ, if_neg (fun z => c1 (of_decide_eq_true z))]
    · rintro H2 ⟨s2, hT2, h2⟩
      have h2' : H2 D = some (.lst ((divsL e).map V.int)) := h2
      clear h2
      have sTH : Same H (upd H T (.dK [])) := sT
      refine ⟨D, rfl, ⟨_, SqL.of h2'⟩, for_list (K := K) (a := D) (xs := (divsL e).map V.int) (fun i σ H3 => ∃ u2 u3 u4 u5 u6 u7 u8 u9 u10, σ = [some (.int e), some (.ref T), u2, u3, u4, u5, u6, u7, u8, u9, u10] ∧ Same H H3 ∧ H3 D = some (.lst ((divsL e).map V.int)) ∧ ∃ ts : List Ent, H3 T = some (.dK (entK ts)) ∧ EntAt H3 ts ∧ ts.map (·.2) = rtab e i ∧ ∀ x ∈ ts, H x.1 = none)
        ⟨none, none, none, none, none, none, none, none, none, rfl, s2, h2', [], hT2, fun x hx => absurd hx (by simp), rfl, fun x hx => absurd hx (by simp)⟩ (fun i σ H3 _ ⟨_, _, _, _, _, _, _, _, _, _, _, z, _⟩ => SqL.of z) ?_ ?_⟩
      · rintro i y σ H3 hi ⟨u2, u3, u4, u5, u6, u7, u8, u9, u10, rfl, s3, hD3, ts, hT3, ents, ets, frs⟩
        obtain ⟨d, rfl, hd⟩ := getI hi
        have il := ltL hd
        have dm := List.mem_of_getElem? hd
        have d60 := db d dm
        have ed : (divsL e).getD i 0 = d := by rw [List.getD_eq_getElem?_getD, hd]; rfl
        obtain ⟨okT, keys, tl60⟩ := lr_tab e he i (List.mem_range.mpr (by omega))
        have hin := lr_in e he i (List.mem_range.mpr il)
        rw [ed] at hin
        have tsl : ts.length = (rtab e i).length := by rw [← ets, List.length_map]
        have hTD3 : T ≠ D := ne_of hT3 hD3 (by intro z; cases z)
        -- left
        refine seq_asg ?_
        refine ⟨_, rfl, by show 1 ≤ sizeLine; decide, fun z1 hz1 => ⟨by show 1 ≤ sizeLine; decide, fun z2 hz2 => ?_⟩⟩
        have n12 : z1 ≠ z2 := ne_of_none upd_same hz2
        refine ⟨_, rfl, _, _, rfl, rfl, z2, _, _, rfl, rfl, upd_same, by omega, by omega, sl_1000 (by simp; omega), fun z3 hz3 => ?_⟩
        rw [rep_flat]
        have sA : Same H3 (upd (upd H3 z1 (.lst [.int (-1)])) z2 (.lst [.int 0])) := same_new (same_upd hz1) hz2
        have sB := same_new (o := .lst (List.replicate (d - 1).toNat (V.int 0))) sA hz3
        have g1 : upd (upd (upd H3 z1 (.lst [.int (-1)])) z2 (.lst [.int 0])) z3 (.lst (List.replicate (d - 1).toNat (V.int 0))) z1 = some (.lst [.int (-1)]) := by
          have q1 : upd (upd H3 z1 (.lst [.int (-1)])) z2 (.lst [.int 0]) z1 = some (.lst [.int (-1)]) := by rw [upd_ne n12]; exact upd_same
          rw [upd_ne (ne_of_none q1 hz3)]
          exact q1
        refine ⟨z1, z3, _, _, rfl, rfl, g1, upd_same, sl_1000 (by simp; omega), fun z4 hz4 => ?_⟩
        have sC := same_new (o := .lst ([V.int (-1)] ++ List.replicate (d - 1).toNat (V.int 0))) sB hz4
        generalize hH4 : upd (upd (upd (upd H3 z1 (.lst [.int (-1)])) z2 (.lst [.int 0])) z3 (.lst (List.replicate (d - 1).toNat (V.int 0)))) z4 (.lst ([V.int (-1)] ++ List.replicate (d - 1).toNat (V.int 0))) = H4 at sC
        have g4 : H4 z4 = some (.lst ([V.int (-1)] ++ List.replicate (d - 1).toNat (V.int 0))) := by rw [← hH4, upd_same]
        refine ⟨by show 1 ≤ sizeLine; decide, fun z5 hz5 => ?_⟩
        have s5 : Same H4 (upd H4 z5 (.lst [.int 1])) := same_upd hz5
        refine ⟨z4, z5, _, _, rfl, rfl, s5 _ _ g4, upd_same, sl_1000 (by simp; omega), fun L hL => ?_⟩
        have s6 := same_new (o := .lst ([V.int (-1)] ++ List.replicate (d - 1).toNat (V.int 0) ++ [V.int 1])) (sC.trans s5) hL
        have nL : H3 L = none := (sC.trans s5).free hL
        generalize hH6 : upd (upd H4 z5 (.lst [.int 1])) L (.lst ([V.int (-1)] ++ List.replicate (d - 1).toNat (V.int 0) ++ [V.int 1])) = H6 at s6
        have g6 : H6 L = some (.lst ((rinL (rtab e i) d 0).map V.int)) := by
          rw [← hH6, upd_same]
          show _ = some (HO.lst ((([-1] : List Int) ++ List.replicate (d - 1).toNat 0 ++ [1]).map V.int))
          simp
        -- sorted(list(table))
        refine ⟨_, rfl, T, _, rfl, s6 _ _ hT3, fun q hq => ?_⟩
        have s7 := same_new (o := .lst ((entK ts).map fun kv => kV kv.1)) s6 hq
        generalize hH7 : upd H6 q (.lst ((entK ts).map fun kv => kV kv.1)) = H7 at s7
        have g7 : H7 q = some (.lst (((rtab e i).map (·.1)).map V.int)) := by
          rw [← hH7, upd_same, ← ets]
          simp [entK, kV]
        have kpw : ((rtab e i).map (·.1)).Pairwise (· < ·) := by
          rw [keys]
          exact dpw.sublist (List.take_sublist _ _)
        refine ⟨q, (rtab e i).map (·.1), rfl, SqL.of g7, by rw [List.length_map]; omega, fun ns' S hpm hpw hS => ?_⟩
        have ens : ns' = (rtab e i).map (·.1) := List.Perm.eq_of_pairwise (le := fun a b => a ≤ b) (fun a b _ _ h1 h2 => Int.le_antisymm h1 h2) hpw (kpw.imp (fun h => Int.le_of_lt h)) hpm
        subst ens
        have s8 := same_new (o := .lst (((rtab e i).map (·.1)).map V.int)) s7 hS
        generalize hH8 : upd H7 S (.lst (((rtab e i).map (·.1)).map V.int)) = H8 at s8
        have g8 : H8 S = some (.lst (((rtab e i).map (·.1)).map V.int)) := by rw [← hH8, upd_same]
        have g7L : H7 L = some (.lst ((rinL (rtab e i) d 0).map V.int)) := by
          rw [← hH7, upd_ne (ne_of_none g6 hq)]
          exact g6
        have g8L : H8 L = some (.lst ((rinL (rtab e i) d 0).map V.int)) := by
          rw [← hH8, upd_ne (ne_of_none g7L hS)]
          exact g7L
        refine ⟨S, rfl, ⟨_, SqL.of g8⟩, fun C hC => ?_⟩
        refine lc_list (K := K) (a := S) (xs := ((rtab e i).map (·.1)).map V.int) (fun m H9 => Same H8 H9 ∧ H9 C = some (.lst ((((rtab e i).take m).filter fun p => decide (d % p.1 = 0)).map fun p => V.int p.1))) ⟨same_upd hC, upd_same⟩ (fun m H9 _ ⟨z, _⟩ => SqL.of (z _ _ g8)) ?_ ?_
        · rintro m y H9 hm ⟨s9, g9⟩
          obtain ⟨c, rfl, hc⟩ := getI hm
          rw [List.getElem?_map] at hc
          obtain ⟨pc, hpc, rfl⟩ := Option.map_eq_some_iff.mp hc
          have okp := List.all_eq_true.mp okT pc (List.mem_of_getElem? hpc)
          rw [Bool.and_eq_true] at okp
          have pc1 := of_decide_eq_true okp.1
          refine ⟨rfl, _, rfl, Or.inl ⟨_, rfl, _, rfl, _, _, rfl, rfl, (by show (0 : Int) < pc.1; omega), rfl, _, rfl, ?_⟩⟩
          refine ite2 (fun c => ?_) (fun c => ?_)
          · have c1 : d % pc.1 = 0 := eqI c
            refine ⟨_, rfl, _, g9, sl_lt ?_, same_at s9 hC, ?_⟩
            · rw [List.length_map]
              exact Nat.le_trans (List.length_filter_le _ _) (Nat.le_trans (List.length_take_le' _ _) (by omega))
            · rw [upd_same, takeS hpc, List.filter_append, List.map_append]
              simp [c1]
          · have c1 := neI c
            refine ⟨s9, ?_⟩
            rw [g9, takeS hpc, List.filter_append]
            simp [c1]
        · rintro H9 ⟨s9, g9⟩
          rw [List.length_map, List.length_map, List.take_length] at g9
          have g9' : H9 C = some (.lst (((rflt (rtab e i) d).map (·.1)).map V.int)) := by
            rw [g9, List.map_map]
            rfl
          have g9L := s9 _ _ g8L
          have s9' : Same H3 H9 := s8.trans s9
          have hCL : C ≠ L := (ne_of_none g8L hC).symm
          have nC : H3 C = none := s8.free hC
          clear g9 g8 g8L g7L g7 hH8 hH7 hH6 hH4
          have nod : (ts.map (·.2.1)).Nodup := by
            have : ts.map (·.2.1) = (rtab e i).map (·.1) := by rw [← ets, List.map_map]; rfl
            rw [this]
            exact kpw.imp (fun h => Int.ne_of_lt h)
          generalize hKF : rflt (rtab e i) d = KF at g9' hin
          refine ⟨C, rfl, ⟨_, SqL.of g9'⟩, for_list (K := K) (a := C) (xs := (KF.map (·.1)).map V.int) (fun j σ H10 => ∃ (Lx : Addr) (u4 u5 u6 u7 u8 u9 u10 : Option V), σ = [some (.int e), some (.ref T), some (.int d), some (.ref Lx), u4, u5, u6, u7, u8, u9, u10] ∧ Same H3 H10 ∧ H10 C = some (.lst ((KF.map (·.1)).map V.int)) ∧ H10 Lx = some (.lst ((rinL (rtab e i) d j).map V.int)) ∧ H3 Lx = none ∧ C ≠ Lx)
            ⟨L, u4, u5, u6, u7, u8, u9, u10, rfl, s9', g9', g9L, nL, hCL⟩ (fun j σ H10 _ ⟨_, _, _, _, _, _, _, _, _, _, z, _⟩ => SqL.of z) ?_ ?_⟩
          · rintro j y σ H10 hj ⟨Lx, v4, v5, v6, v7, v8, v9, v10, rfl, s10, gC, gL, nLx, hCLx⟩
            obtain ⟨c, rfl, hc⟩ := getI hj
            rw [List.getElem?_map] at hc
            obtain ⟨pc, hpc, rfl⟩ := Option.map_eq_some_iff.mp hc
            have jl := ltL hpc
            have bnd := hin j (List.mem_range.mpr jl)
            have epc : KF.getD j (0, []) = pc := by rw [List.getD_eq_getElem?_getD, hpc]; rfl
            rw [epc] at bnd
            have pcm : pc ∈ rtab e i := by
              have := List.mem_of_getElem? hpc
              rw [← hKF] at this
              exact (List.mem_filter.mp this).1
            have okp := List.all_eq_true.mp okT pc pcm
            rw [Bool.and_eq_true, Bool.and_eq_true] at okp
            have len2 := of_decide_eq_true okp.2.1
            have cfb : ∀ x ∈ pc.2, -1000 ≤ x ∧ x ≤ 1000 := fun x hx => by
              have := List.all_eq_true.mp okp.2.2 x hx
              rw [Bool.and_eq_true] at this
              exact ⟨of_decide_eq_true this.1, of_decide_eq_true this.2⟩
            rw [← ets] at pcm
            obtain ⟨x, hx, ex⟩ := List.mem_map.mp pcm
            subst ex
            have vx := ent_val nod hx
            have gX := s10 _ _ (ents x hx)
            have hT10 := s10 _ _ hT3
            have dg : DGet H10 T (.int x.2.1) (some (.ref x.1)) := by
              rw [← vx]
              exact DGet.k (k := Sum.inl x.2.1) hT10
            refine ⟨_, rfl, _, rfl, T, .ref x.1, rfl, dg, by decide, fun FD hFD => ⟨_, _, rfl, ?_⟩⟩
            have nFD : H3 FD = none := s10.free hFD
            have sFD : Same H10 (upd H10 FD (.lst [])) := same_upd hFD
            have hLF : Lx ≠ FD := ne_of_none gL hFD
            have hCF : C ≠ FD := ne_of_none gC hFD
            generalize hleft : rinL (rtab e i) d j = left at gL bnd
            generalize hby : x.2.2 = by_ at bnd len2 cfb gX
            refine ⟨_, rfl, Lx, _, rfl, .inl (SqL.of (sFD _ _ gL)), _, rfl, x.1, _, rfl, .inl (SqL.of (sFD _ _ gX)), _, _, rfl, rfl, _, rfl, _, rfl, _, _, _, _, rfl, RgC.neg (by rw [List.length_map, List.length_map]; omega) (by rw [List.length_map, List.length_map]; omega) (by omega) (by omega), ?_⟩
            rw [List.length_map, List.length_map]
            have hn : (((left.length : Nat) : Int) - ((by_.length : Nat) : Int) - -1).toNat = left.length - by_.length + 1 := by omega
            rw [hn]
            refine for_rangeC (lo := ((left.length : Nat) : Int) - ((by_.length : Nat) : Int)) (c := -1) (n := left.length - by_.length + 1) (fun m σ H11 => ∃ u7 u8 u9 u10, σ = [some (.int e), some (.ref T), some (.int d), some (.ref Lx), some (.int x.2.1), some (.ref x.1), some (.ref FD), u7, u8, u9, u10] ∧ Same H3 H11 ∧ H11 C = some (.lst ((KF.map (·.1)).map V.int)) ∧ H11 Lx = some (.lst ((rkL by_ left m).1.map V.int)) ∧ H11 FD = some (.lst ((rkL by_ left m).2.map V.int)))
              ⟨v7, v8, v9, v10, rfl, s10.trans sFD, sFD _ _ gC, sFD _ _ gL, upd_same⟩ ?_ ?_
            · rintro m σ H11 hm ⟨w7, w8, w9, w10, rfl, s11, gC11, gL11, gF11⟩
              have rl := rkL_len by_ left m
              have gB : H11 x.1 = some (.lst (by_.map V.int)) := by rw [← hby]; exact s11 _ _ (ents x hx)
              have nB : x.1 ≠ Lx := fun z => by rw [z] at gX; have := ents x hx; rw [z, nLx] at this; cases this
              have e1 : ((left.length : Nat) : Int) - ((by_.length : Nat) : Int) + ((m : Nat) : Int) * -1 = ((left.length - by_.length - m : Nat) : Int) := by omega
              rw [e1]
              have e2 : ((left.length - by_.length - m : Nat) : Int) + ((by_.map V.int).length : Int) - 1 = ((left.length - by_.length - m + by_.length - 1 : Nat) : Int) := by rw [List.length_map]; omega
              have tp : atI ((rkL by_ left m).1.map V.int) (((left.length - by_.length - m : Nat) : Int) + ((by_.map V.int).length : Int) - 1) = some (V.int ((rkL by_ left m).1.getD (left.length - by_.length - m + by_.length - 1) 0)) := by
                rw [e2]
                exact atI_nat (getD_of (by rw [rl.1]; omega))
              generalize htop : (rkL by_ left m).1.getD (left.length - by_.length - m + by_.length - 1) 0 = top at tp
              refine ⟨_, rfl, _, rfl, _, rfl, x.1, _, rfl, .inl (SqL.of gB), _, _, rfl, rfl, _, _, rfl, rfl, Lx, _, _, .int top, rfl, rfl, SqL.of gL11, tp, ?_⟩
              refine ⟨_, rfl, Or.inl ⟨rfl, _, SqL.of gF11⟩, _, rfl, FD, _, _, rfl, rfl, gF11, sl_lt (by rw [List.length_map, rl.2]; omega), ?_⟩
              have hLF' : Lx ≠ FD := hLF
              have nBF : x.1 ≠ FD := fun z => by have := ents x hx; rw [z, nFD] at this; cases this
              generalize hH12 : upd H11 FD (.lst ((rkL by_ left m).2.map V.int ++ [.int top])) = H12
              have s12 : Same H3 H12 := by rw [← hH12]; exact same_at s11 nFD
              have gC12 : H12 C = some (.lst ((KF.map (·.1)).map V.int)) := by rw [← hH12, upd_ne hCF]; exact gC11
              have gL12 : H12 Lx = some (.lst ((rkL by_ left m).1.map V.int)) := by rw [← hH12, upd_ne hLF]; exact gL11
              have gF12 : H12 FD = some (.lst ((rkL by_ left (m + 1)).2.map V.int)) := by
                rw [← hH12, upd_same]
                show _ = some (HO.lst (((rkL by_ left m).2 ++ [(rkL by_ left m).1.getD (left.length - by_.length - m + by_.length - 1) 0]).map V.int))
                rw [htop, List.map_append]
                rfl
              have gB12 : H12 x.1 = some (.lst (by_.map V.int)) := by rw [← hby]; exact s12 _ _ (ents x hx)
              refine ⟨_, rfl, x.1, by_.map V.int, rfl, SqL.of gB12, ?_⟩
              refine for_it (walk_enum (K := K) (a := x.1) (xs := by_.map V.int)) (fun a σ H13 => ∃ u9 u10, σ = [some (.int e), some (.ref T), some (.int d), some (.ref Lx), some (.int x.2.1), some (.ref x.1), some (.ref FD), some (.int ((left.length - by_.length - m : Nat) : Int)), some (.int top), u9, u10] ∧ Same H3 H13 ∧ H13 C = some (.lst ((KF.map (·.1)).map V.int)) ∧ H13 Lx = some (.lst ((subN top by_ (left.length - by_.length - m) (rkL by_ left m).1 a).map V.int)) ∧ H13 FD = some (.lst ((rkL by_ left (m + 1)).2.map V.int)))
                ⟨w9, w10, rfl, s12, gC12, gL12, gF12⟩ (fun a σ H13 _ ⟨_, _, _, z, _⟩ => SqL.of (by rw [← hby]; exact z _ _ (ents x hx))) ?_ ?_
              · rintro a v σ H13 H14 ha ⟨w9', w10', rfl, s13, gC13, gL13, gF13⟩ ⟨T5, c5, y5, rfl, hT5, rfl, ec, ey⟩
                obtain ⟨tv, rfl, htv⟩ := getI ey
                obtain rfl := Option.some.inj ec
                have al := ltL htv
                have tvb := cfb tv (List.mem_of_getElem? htv)
                have sl := subN_len top by_ (left.length - by_.length - m) (rkL by_ left m).1 a
                have s14 : Same H13 (upd H13 T5 (.tup [.int (a : Int), .int tv])) := same_upd hT5
                have gL14 := s14 _ _ gL13
                have e3 : ((left.length - by_.length - m : Nat) : Int) + (a : Int) = ((left.length - by_.length - m + a : Nat) : Int) := by omega
                have tp2 : atI ((subN top by_ (left.length - by_.length - m) (rkL by_ left m).1 a).map V.int) (((left.length - by_.length - m : Nat) : Int) + (a : Int)) = some (V.int ((subN top by_ (left.length - by_.length - m) (rkL by_ left m).1 a).getD (left.length - by_.length - m + a) 0)) := by
                  rw [e3]
                  exact atI_nat (getD_of (by rw [sl, rl.1]; omega))
                have e4 : by_.getD a 0 = tv := by rw [List.getD_eq_getElem?_getD, htv]; rfl
                refine ⟨T5, _, rfl, SqT.of upd_same, rfl, _, _, rfl, _, _, rfl, rfl, ?_⟩
                refine ⟨_, rfl, _, rfl, _, rfl, _, _, rfl, rfl, Lx, _, _, _, rfl, rfl, SqL.of gL14, tp2, _, rfl, _, rfl, _, _, rfl, rfl, Or.inr ⟨by omega, by omega⟩, _, _, rfl, rfl, _, rfl, _, rfl, _, rfl, _, _, rfl, rfl, Lx, _, _, left.length - by_.length - m + a, rfl, rfl, gL14, ?_, ?_⟩
                · rw [e3, List.length_map, sl, rl.1]
                  exact ixN_nat (by omega)
                · refine ⟨some (.int (a : Int)), some (.int tv), rfl, same_at (s13.trans s14) nLx, ?_, ?_, ?_⟩
                  · rw [upd_ne hCLx]
                    exact s14 _ _ gC13
                  · rw [upd_same, ← List.map_set]
                    show _ = some (HO.lst (((subN top by_ (left.length - by_.length - m) (rkL by_ left m).1 a).set (left.length - by_.length - m + a) ((subN top by_ (left.length - by_.length - m) (rkL by_ left m).1 a).getD (left.length - by_.length - m + a) 0 - top * by_.getD a 0)).map V.int))
                    rw [e4]
                  · rw [upd_ne hLF.symm]
                    exact s14 _ _ gF13
              · rintro σ H13 ⟨w9', w10', rfl, s13, gC13, gL13, gF13⟩
                rw [List.length_map] at gL13
                refine ⟨_, _, _, _, rfl, s13, gC13, ?_, gF13⟩
                rw [gL13]
                show _ = some (HO.lst ((subN ((rkL by_ left m).1.getD (left.length - by_.length - m + by_.length - 1) 0) by_ (left.length - by_.length - m) (rkL by_ left m).1 by_.length).map V.int))
                rw [htop]
            · rintro σ H11 ⟨w7, w8, w9, w10, rfl, s11, gC11, gL11, gF11⟩
              refine ⟨_, rfl, FD, _, rfl, SqL.of gF11, fun L2 hL2 => ?_⟩
              have s15 := same_new (o := .lst ((rkL by_ left (left.length - by_.length + 1)).2.map V.int).reverse) s11 hL2
              refine ⟨L2, _, _, _, _, _, _, _, rfl, s15, ?_, ?_, s11.free hL2, ne_of_none gC11 hL2⟩
              · rw [upd_ne (ne_of_none gC11 hL2)]
                exact gC11
              · rw [upd_same, ← List.map_reverse]
                show _ = some (HO.lst ((rinL (rtab e i) d (j + 1)).map V.int))
                have : rinL (rtab e i) d (j + 1) = rstep left by_ := by
                  unfold rinL at hleft ⊢
                  rw [hKF] at hleft ⊢
                  rw [takeS hpc, List.foldl_append, hleft, ← hby]
                  rfl
                rw [this]
                rfl
          · rintro σ H10 ⟨Lx, v4, v5, v6, v7, v8, v9, v10, rfl, s10, gC, gL, nLx, hCLx⟩
            rw [List.length_map, List.length_map] at gL
            have hT10 := s10 _ _ hT3
            have fresh : d ∉ ts.map (·.2.1) := by
              have e1 : ts.map (·.2.1) = (divsL e).take i := by rw [← keys, ← ets, List.map_map]; rfl
              rw [e1]
              intro z
              obtain ⟨b, hb⟩ := List.getElem?_of_mem z
              have bl := ltL hb
              rw [List.length_take] at bl
              rw [List.getElem?_take_of_lt (by omega)] at hb
              have := List.pairwise_iff_getElem.mp dpw b i (by omega) il (by omega)
              rw [List.getElem?_eq_getElem (by omega)] at hb hd
              rw [Option.some.inj hb, Option.some.inj hd] at this
              omega
            refine ⟨_, rfl, _, rfl, _, rfl, T, _, rfl, DPut.k (k := Sum.inl d) hT10 (sl_lt (by rw [List.length_map]; omega)), ?_⟩
            rw [ent_put fresh]
            have nTL : T ≠ Lx := fun z => by rw [z, nLx] at hT3; cases hT3
            refine ⟨_, _, _, _, _, _, _, _, _, rfl, same_at (s3.trans s10) hT, ?_, ts ++ [(Lx, (d, rinL (rtab e i) d KF.length))], ?_, ?_, ?_, ?_⟩
            · rw [upd_ne hTD3.symm]
              exact s10 _ _ hD3
            · rw [upd_same]
              simp [entK]
            · intro y hy
              rcases List.mem_append.mp hy with z | z
              · have q := s10 _ _ (ents y z)
                rw [upd_ne (ne_of q hT10 (by intro z; cases z))]
                exact q
              · rw [List.mem_singleton.mp z]
                rw [upd_ne nTL.symm]
                exact gL
            · rw [List.map_append, ets]
              show _ = rtab e i ++ [((divsL e).getD i 0, rinL (rtab e i) ((divsL e).getD i 0) (rflt (rtab e i) ((divsL e).getD i 0)).length)]
              rw [ed, hKF]
              rfl
            · intro y hy
              rcases List.mem_append.mp hy with z | z
              · exact frs y z
              · rw [List.mem_singleton.mp z]
                exact s3.free nLx
      · rintro σ H3 ⟨u2, u3, u4, u5, u6, u7, u8, u9, u10, rfl, s3, hD3, ts, hT3, ents, ets, frs⟩
        rw [List.length_map] at ets
        have em := lr_end e he
        obtain ⟨okT, keys, tl60⟩ := lr_tab e he (divsL e).length (List.mem_range.mpr (by omega))
        rw [← ets] at em
        obtain ⟨x, hx, ex⟩ := List.mem_map.mp em
        have nod : (ts.map (·.2.1)).Nodup := by
          have : ts.map (·.2.1) = (rtab e (divsL e).length).map (·.1) := by rw [← ets, List.map_map]; rfl
          rw [this, keys, List.take_length]
          exact dpw.imp (fun h => Int.ne_of_lt h)
        have vx := ent_val nod hx
        have dg : DGet H3 T (.int e) (some (.ref x.1)) := by
          rw [ex] at vx
          rw [← vx]
          exact DGet.k (k := Sum.inl e) hT3
        refine ⟨_, rfl, _, rfl, T, .ref x.1, rfl, dg, k x.1 H3 s3 (frs x hx) ?_⟩
        have := ents x hx
        rw [ex] at this
        exact this
end
end K09

/-! The law's numbers: made. -/
namespace K09
open PySem PySem.Spec PyProof.Rows L2
section
variable {P : Program} {w : World} {K : PySem.W.Frag} {mg : Str → Option Value} {base : Heap} {f f1 f2 f3 f4 f5 : Addr} {fd fd1 fd2 fd3 fd4 fd5 : FuncData}
def spLMade (K : PySem.W.Frag) : Sp := fun vs H Q _ => ∃ (a b : Addr) (xs : List Int) (e bt : Int), vs = [.ref a, .ref b, .int bt] ∧ e ∈ ER ∧ SqL K H a ((polyL e).map V.int) ∧ SqI K H b xs ∧ xs.length ≤ 100 ∧ 1 ≤ bt ∧ bt < 1073741824 ∧ ∀ v H', Same H H' → NumAt K H' v (lowL (redL xs (polyL e)) bt) → Q v H'
abbrev lmN : List Str := ["ring", "sums", "bottom", "left", "d", "k", "top", "i", "g", "x"]
theorem scLM : FnScope lmN ["ring", "sums", "bottom"] (defScope sLMade) := ⟨rfl, rfl, rfl, by decide +kernel, rfl, by decide +kernel, by decide +kernel⟩
theorem ok_lMade (F : FnP K "_law_made" sLMade f fd) (B : Bl mg) (F1 : FnP K "_law_gcd" sLGcd f1 fd1) (g1 : mg "_law_gcd" = some (.ref f1)) (G1 : FnOk P w K mg base CX0 1 f1 fd1 ["one", "other"] spGcd) : FnOk P w K mg base CX0 2 f fd ["ring", "sums", "bottom"] (spLMade K) := by
  have b1 : Binds K fd1 ["one", "other"] [] := F1.bindsN fun _ _ _ _ _ _ us hl => match us, hl with | [_, _], _ => rfl
  refine F.ok scLM (fun vs H Q E h => ?_) (fun cdv A outer s H vs Q E hr h => ?_)
  · obtain ⟨a, b, xs, e, bt, rfl, _⟩ := h
    rfl
  · obtain ⟨a, b, xs, e, bt, rfl, he, hRg, hSm, xl, b1', b2', k⟩ := h
    refine ⟨_, PSs.nox (pss_cons (ps_par (i := 3) (j := 4) rfl scLM.nd rfl rfl (by decide) rfl rfl (pa_cons (pe_callTy call_list_of (by rfl) (B "list" (by decide +kernel)) (by decide +kernel) (pa_cons (pv 1) pa_nil)) (pa_cons (pe_op op_sub (pe_callB call_len_seq (by rfl) (B "len" (by decide +kernel)) PySem.boot_len (pa_cons (pv 0) pa_nil)) pe_int) pa_nil)) rfl)
      (pss_cons (ps_for PassesOwn.never rfl (pi_range3 rfl (B "range" (by decide +kernel)) (pa_cons (pe_op op_sub (pe_callB call_len_seq (by rfl) (B "len" (by decide +kernel)) PySem.boot_len (pa_cons (pv 3) pa_nil)) pe_int) (pa_cons (pe_op op_sub (pv 4) pe_int) (pa_cons (pe_un un_neg pe_int) pa_nil))))
          (pg_name (i := 5) scLM.nd rfl (Or.inl rfl))
        (pss_cons (ps_set (i := 6) scLM.nd rfl (Or.inl rfl) (pe_ix ix_list (pv 3) (pv 5) (fun _ _ => rfl)))
        (pss_one (ps_if (pt_cmpR op_ne (pv 6) pe_int (nomark _))
          (pss_one (ps_for PassesOwn.never rfl (pi_range1 rfl (B "range" (by decide +kernel)) (pa_cons (pe_op op_add (pv 4) pe_int) pa_nil)) (pg_name (i := 7) scLM.nd rfl (Or.inl rfl))
            (pss_one (ps_asg (pe_op op_sub (pe_ix ix_list (pv 3) (pe_op op_add (pe_op op_sub (pv 5) (pv 4)) (pv 7)) (fun _ _ => rfl)) (pe_op op_mul (pv 6) (pe_ix ix_list (pv 0) (pv 7) (fun _ _ => rfl)))) (pg_sub (pv 3) (pe_op op_add (pe_op op_sub (pv 5) (pv 4)) (pv 7)) set_list)))))
          pss_nil))))
      (pss_cons (ps_set (i := 3) scLM.nd rfl (Or.inl rfl) (pe_slice sl_list (pe_op op_cat (pv 3) (pe_op op_rep (pe_lst (pa_cons pe_int pa_nil)) (pv 4))) po_none (po_some (pv 4))))
      (pss_cons (ps_set (i := 8) scLM.nd rfl (Or.inr rfl) (pv 2))
      (pss_cons (ps_for PassesOwn.never rfl (pi_list (pv 3)) (pg_name (i := 9) scLM.nd rfl (Or.inl rfl)) (pss_one (ps_set (i := 8) scLM.nd rfl (Or.inr rfl) (pe_call G1 hr rfl g1 F1.kp b1 .nil pass0 (pa_cons (pv 8) (pa_cons (pv 9) pa_nil))))))
      (pss_cons (ps_set (i := 8) scLM.nd rfl (Or.inr rfl) (pe_ifExp (pt_cmpR op_gt (pv 2) pe_int (nomark _)) (pv 8) (pe_un un_neg (pv 8))))
      (pss_one (ps_ret (pe_tup (pa_cons (pe_callTy call_tuple_of (by rfl) (B "tuple" (by decide +kernel)) (by decide +kernel) (pa_cons
        (pe_lc (own := [("x", 9)]) (g := gName 9) (tt := tYes) (te := tOp rFdv (tVar 9) (tVar 8)) rfl scLM.nd (pi_list (pv 3)) (blkOk_by (own := [("x", 9)]) (N := lmN) (sc := defScope sLMade) (by decide +kernel))
          (fun _ _ _ _ _ => pg_name (i := 9) scLM.nd rfl (Or.inl rfl)) (fun _ _ _ _ _ => pts_nil) (fun _ _ _ _ _ => pe_op op_fdiv (pv 9) (pv 8))) pa_nil)) (pa_cons (pe_op op_fdiv (pv 2) (pv 8)) pa_nil))))))))))), ?_⟩
    obtain ⟨m1, m2, m3, m4⟩ := er_mon e he
    generalize hPo : polyL e = po at hRg m1 m2 m3 m4 k
    have hsq : SqL K H b (xs.map V.int) ∨ SqT K H b (xs.map V.int) := hSm
    refine ⟨_, rfl, b, _, rfl, hsq, fun L hL => ?_⟩
    have sL : Same H (upd H L (.lst (xs.map V.int))) := same_upd hL
    refine ⟨_, rfl, a, _, rfl, .inl (sL.seq hRg), _, _, rfl, rfl, _, _, rfl, ?_⟩
    have gL : upd H L (.lst (xs.map V.int)) L = some (.lst (xs.map V.int)) := upd_same
    refine ⟨_, rfl, L, _, rfl, .inl (SqL.of gL), _, _, rfl, rfl, _, rfl, _, _, rfl, rfl, _, rfl, _, _, _, _, rfl, RgC.neg (by rw [List.length_map]; omega) (by rw [List.length_map]; omega) (by rw [List.length_map]; omega) (by rw [List.length_map]; omega), ?_⟩
    rw [List.length_map, List.length_map]
    have hn : (((xs.length : Nat) : Int) - 1 - (((po.length : Nat) : Int) - 1 - 1)).toNat = xs.length - (po.length - 1) := by omega
    rw [hn]
    refine for_rangeC (lo := ((xs.length : Nat) : Int) - 1) (c := -1) (n := xs.length - (po.length - 1)) (fun m σ H2 => ∃ u5 u6 u7, σ = [some (.ref a), some (.ref b), some (.int bt), some (.ref L), some (.int (((po.length : Nat) : Int) - 1)), u5, u6, u7, none, none] ∧ Same H H2 ∧ H2 L = some (.lst ((mdGo po xs m).map V.int)))
      ⟨none, none, none, rfl, sL, gL⟩ ?_ ?_
    · rintro m σ H2 hm ⟨u5, u6, u7, rfl, s2, g2⟩
      have ln := mdGo_len po xs m
      have e1 : ((xs.length : Nat) : Int) - 1 + (m : Nat) * -1 = ((xs.length - 1 - m : Nat) : Int) := by omega
      rw [e1]
      have tp : atI ((mdGo po xs m).map V.int) ((xs.length - 1 - m : Nat) : Int) = some (V.int ((mdGo po xs m).getD (xs.length - 1 - m) 0)) := atI_nat (getD_of (by rw [ln]; omega))
      have e0 : mdGo po xs (m + 1) = if (mdGo po xs m).getD (xs.length - 1 - m) 0 = 0 then mdGo po xs m
        else subN ((mdGo po xs m).getD (xs.length - 1 - m) 0) po (xs.length - 1 - m - (po.length - 1)) (mdGo po xs m) po.length := rfl
      generalize htop : (mdGo po xs m).getD (xs.length - 1 - m) 0 = top at tp e0
      refine ⟨_, rfl, _, rfl, L, _, _, .int top, rfl, rfl, SqL.of g2, tp, ?_⟩
      refine ⟨_, rfl, rfl, _, rfl, ?_⟩
      refine ite2 (fun c => ?_) (fun c => ?_)
      · have c1 : ¬ top = 0 := fun z => by rw [z] at c; simp at c
        rw [if_neg c1] at e0
        refine ⟨_, rfl, _, _, rfl, rfl, _, rfl, by omega, by omega, ?_⟩
        have e2 : (((po.length : Nat) : Int) - 1 + 1).toNat = po.length := by omega
        rw [e2]
        refine for_range (lo := 0) (n := po.length) (fun t σ H3 => ∃ u7, σ = [some (.ref a), some (.ref b), some (.int bt), some (.ref L), some (.int (((po.length : Nat) : Int) - 1)), some (.int ((xs.length - 1 - m : Nat) : Int)), some (.int top), u7, none, none] ∧ Same H H3 ∧ H3 L = some (.lst ((subN top po (xs.length - 1 - m - (po.length - 1)) (mdGo po xs m) t).map V.int)))
          ⟨u7, rfl, s2, g2⟩ ?_ ?_
        · rintro t σ H3 ht ⟨u7', rfl, s3, g3⟩
          have sl := subN_len top po (xs.length - 1 - m - (po.length - 1)) (mdGo po xs m) t
          have e3 : ((xs.length - 1 - m : Nat) : Int) - (((po.length : Nat) : Int) - 1) + (0 + (t : Int)) = ((xs.length - 1 - m - (po.length - 1) + t : Nat) : Int) := by omega
          have e4 : (0 : Int) + (t : Int) = (t : Int) := Int.zero_add _
          have tp2 : atI ((subN top po (xs.length - 1 - m - (po.length - 1)) (mdGo po xs m) t).map V.int) (((xs.length - 1 - m : Nat) : Int) - (((po.length : Nat) : Int) - 1) + (0 + (t : Int))) = some (V.int ((subN top po (xs.length - 1 - m - (po.length - 1)) (mdGo po xs m) t).getD (xs.length - 1 - m - (po.length - 1) + t) 0)) := by
            rw [e3]
            exact atI_nat (getD_of (by rw [sl, ln]; omega))
          have tp3 : atI (po.map V.int) ((0 : Int) + (t : Int)) = some (V.int (po.getD t 0)) := by
            rw [e4]
            exact atI_nat (getD_of ht)
          have cb : -1000 ≤ po.getD t 0 ∧ po.getD t 0 ≤ 1000 := by
            rw [List.getD_eq_getElem?_getD, List.getElem?_eq_getElem ht]
            exact m4 _ (List.getElem_mem _)
          refine ⟨_, rfl, _, rfl, _, rfl, _, _, rfl, rfl, _, rfl, _, _, rfl, rfl, L, _, _, _, rfl, rfl, SqL.of g3, tp2, _, rfl, _, rfl, _, rfl, a, _, _, _, rfl, rfl, s3.seq hRg, tp3, _, _, rfl, rfl, Or.inr ⟨by omega, by omega⟩, _, _, rfl, rfl, _, rfl, _, rfl, _, rfl, _, _, rfl, rfl, _, rfl, _, _, rfl, rfl, L, _, _, xs.length - 1 - m - (po.length - 1) + t, rfl, rfl, g3, ?_, ?_⟩
          · rw [e3, List.length_map, sl, ln]
            exact ixN_nat (by omega)
          · refine ⟨_, rfl, same_at s3 hL, ?_⟩
            rw [upd_same, ← List.map_set]
            rfl
        · rintro σ H3 ⟨u7', rfl, s3, g3⟩
          refine ⟨_, _, _, rfl, s3, ?_⟩
          rw [g3, e0]
      · have c1 : top = 0 := by
          by_cases z : top = 0
          · exact z
          · exact absurd (by simp [z]) c
        rw [if_pos c1] at e0
        refine ⟨_, _, _, rfl, s2, ?_⟩
        rw [g2, e0]
    · rintro σ H2 ⟨u5, u6, u7, rfl, s2, g2⟩
      have ln := mdGo_len po xs (xs.length - (po.length - 1))
      have emd : mdL po xs = redL xs po := md_red m1 m3
      refine ⟨_, rfl, by show 1 ≤ sizeLine; decide, fun z hz => ?_⟩
      have sz : Same H2 (upd H2 z (.lst [.int 0])) := same_upd hz
      have ez : (((po.length : Nat) : Int) - 1).toNat = po.length - 1 := by omega
      refine ⟨_, rfl, z, _, _, rfl, rfl, upd_same, by omega, by omega, sl_1000 (by simp; omega), fun y hy => ?_⟩
      rw [rep_flat, ez]
      have sy := same_new (o := .lst (List.replicate (po.length - 1) (V.int 0))) sz hy
      generalize hH3 : upd (upd H2 z (.lst [.int 0])) y (.lst (List.replicate (po.length - 1) (V.int 0))) = H3 at sy
      have gy : H3 y = some (.lst (List.replicate (po.length - 1) (V.int 0))) := by rw [← hH3, upd_same]
      refine ⟨L, y, _, _, rfl, rfl, sy _ _ g2, gy, sl_1000 (by rw [List.length_map, List.length_replicate, ln]; omega), fun c hc => ?_⟩
      have s4 := same_new (o := .lst ((mdGo po xs (xs.length - (po.length - 1))).map V.int ++ List.replicate (po.length - 1) (V.int 0))) sy hc
      generalize hH4 : upd H3 c (.lst ((mdGo po xs (xs.length - (po.length - 1))).map V.int ++ List.replicate (po.length - 1) (V.int 0))) = H4 at s4
      have g4 : H4 c = some (.lst ((mdGo po xs (xs.length - (po.length - 1))).map V.int ++ List.replicate (po.length - 1) (V.int 0))) := by rw [← hH4, upd_same]
      refine ⟨_, rfl, _, rfl, c, _, rfl, SqL.of g4, fun L2 hL2 => ?_⟩
      have ecut : cutV ((mdGo po xs (xs.length - (po.length - 1))).map V.int ++ List.replicate (po.length - 1) (V.int 0)) none (some (((po.length : Nat) : Int) - 1)) = (redL xs po).map V.int := by
        rw [← emd]
        unfold cutV mdL
        have e5 : ((po.length : Nat) : Int) - 1 = ((po.length - 1 : Nat) : Int) := by omega
        rw [e5, HT.sIx_nat, HT.sIx_none, List.drop_zero, List.map_take, List.map_append, List.map_replicate]
        congr 1
        rw [List.length_append, List.length_map, List.length_replicate]
        omega
      rw [ecut]
      have s5 := same_new (o := .lst ((redL xs po).map V.int)) (s2.trans s4) hL2
      generalize hH5 : upd H4 L2 (.lst ((redL xs po).map V.int)) = H5 at s5
      have g5 : H5 L2 = some (.lst ((redL xs po).map V.int)) := by rw [← hH5, upd_same]
      have rl : (redL xs po).length = po.length - 1 := redL_len' (by omega)
      generalize hRE : redL xs po = re at g5 k rl
      refine ⟨_, rfl, ?_⟩
      refine ⟨_, rfl, L2, rfl, ⟨_, SqL.of g5⟩, for_list (K := K) (a := L2) (xs := re.map V.int) (fun i σ H6 => ∃ u, σ = [some (.ref a), some (.ref b), some (.int bt), some (.ref L2), some (.int (((po.length : Nat) : Int) - 1)), u5, u6, u7, some (.int (lowC (re.take i) bt)), u] ∧ Same H5 H6) ⟨none, rfl, Same.refl _⟩ (fun i σ H6 _ ⟨_, _, z⟩ => SqL.of (z _ _ g5)) ?_ ?_⟩
      · rintro i y σ H6 hi ⟨u, rfl, s6⟩
        obtain ⟨t, rfl, ht⟩ := getI hi
        have cb := lowC_bd (re.take i) bt b1'
        refine ⟨_, rfl, _, rfl, _, _, rfl, some (.int t), ?_, s6⟩
        have e : lowC (re.take (i + 1)) bt = gcdI (lowC (re.take i) bt) t := by
          rw [takeS ht]
          unfold lowC
          rw [List.foldl_append]
          rfl
        rw [e]
        rfl
      · rintro σ H6 ⟨u, rfl, s6⟩
        rw [List.length_map, List.take_length]
        have cb := lowC_bd re bt b1'
        generalize hC : lowC re bt = G at cb
        have g6 := s6 _ _ g5
        refine ⟨_, rfl, _, _, rfl, rfl, _, rfl, ?_⟩
        refine ite2 (fun _ => ?_) fun c => absurd (decide_eq_true (by omega)) c
        refine ⟨_, rfl, ?_⟩
        refine ⟨_, rfl, L2, rfl, ⟨_, SqL.of g6⟩, fun D hD => ?_⟩
        refine lc_list (K := K) (a := L2) (xs := re.map V.int) (fun i H7 => Same H6 H7 ∧ H7 D = some (.lst (((re.take i).map fun t => t / G).map V.int))) ⟨same_upd hD, by rw [upd_same]; rfl⟩ (fun i H7 _ ⟨z, _⟩ => SqL.of (z _ _ g6)) ?_ ?_
        · rintro i y H7 hi ⟨s7, g7⟩
          obtain ⟨t, rfl, ht⟩ := getI hi
          have il := ltL ht
          refine ⟨rfl, _, rfl, _, rfl, _, _, rfl, rfl, ⟨by omega, by omega⟩, ?_⟩
          refine ⟨_, g7, sl_lt (by rw [List.length_map, List.length_map, List.length_take]; omega), same_at s7 hD, ?_⟩
          rw [upd_same, takeS ht, List.map_append, List.map_append]
          rfl
        · rintro H7 ⟨s7, g7⟩
          rw [List.length_map, List.take_length] at g7
          refine ⟨D, _, rfl, .inl ⟨SqL.of g7, fun t ht => ?_⟩⟩
          refine ⟨_, rfl, _, rfl, _, _, rfl, rfl, ⟨by omega, by omega⟩, by show 2 ≤ sizeLine; decide, fun p hp => ?_⟩
          have st := same_new (o := .tup ((re.map fun t => t / G).map V.int)) s7 ht
          have sA : Same H H6 := s5.trans s6
          refine k _ _ (sA.trans (same_new st hp)) ⟨p, t, rfl, ?_, ?_⟩
          · refine SqT.of ?_
            rw [upd_same]
            unfold lowL
            rw [hC]
          · unfold lowL
            rw [hC]
            exact (same_upd hp).tup (SqT.of upd_same)
end
end K09

namespace K09
open PySem PySem.Spec PyProof.Rows L2
theorem walk_zipT {K : PySem.W.Frag} {a b : Addr} {xs ys : List V} (h1 : ys.length = xs.length) : Walk (RZ.ItzT K a b) xs.length (fun H => SqT K H a xs ∧ SqT K H b ys) (YPair (fun i => xs[i]?) (fun i => ys[i]?)) := by
  refine ⟨fun i _ hi q => ⟨xs, ys, xs[i], ys[i]'(by omega), q.1, q.2, by simp [hi], by simp [show i < ys.length by omega]⟩, fun _ q => ⟨xs, ys, q.1, q.2, by simp [h1]⟩, fun i H v H' _ q y => ?_⟩
  obtain ⟨T, x, y, h2, h3, h4, h5, h6⟩ := y
  exact ⟨T, x, y, h2, h3, h4, h5 xs q.1, h6 ys q.2⟩
theorem redL_low {xs dv : List Int} (hd : 1 ≤ dv.length) (hx : xs.length = dv.length - 1) : redL xs dv = xs := by
  refine ext_getD (by rw [redL_len' hd, hx]) fun j hj => ?_
  rw [redL_len' hd] at hj
  rw [red_ph hd hj, ph_low _ _ (by omega)]
theorem num_at {K : PySem.W.Frag} {H : Hp} {v : V} {n : Num} {D : Addr} {ys : List V} {o : HO} (h : NumAt K H v n) (hD : H D = some (.lst ys)) : NumAt K (upd H D o) v n := by
  obtain ⟨p, t, rfl, h1, h2⟩ := h
  exact ⟨p, t, rfl, sqt_at h1 hD, sqt_at h2 hD⟩
end K09

/-! The law's drawn numbers. -/
namespace K09
open PySem PySem.Spec PyProof.Rows L2
/-- a ring polynomial's list, off the deck -/
def RingAt (l : Addr) (H : Hp) (r : Addr) (e : Int) : Prop := H r = some (.lst ((polyL e).map V.int)) ∧ r ≠ l
theorem Keeps.ring {d l r : Addr} {H H' : Hp} {e : Int} (k : Keeps d l H H') (D : DeckAt d l H) (h : RingAt l H r e) : RingAt l H' r e := by
  obtain ⟨⟨m, j, h1⟩, _, _⟩ := deck_ref D
  exact ⟨k _ _ h.1 (ne_of h.1 h1 (by intro z; cases z)) h.2, h.2⟩
theorem _root_.L2.Same.ring {l r : Addr} {H H' : Hp} {e : Int} (s : Same H H') (h : RingAt l H r e) : RingAt l H' r e := ⟨s _ _ h.1, h.2⟩
theorem Same.keeps {d l : Addr} {H H' : Hp} (s : Same H H') : Keeps d l H H' := fun b o e _ _ => s b o e
theorem Keeps.num {d l : Addr} {K : PySem.W.Frag} {H H' : Hp} {v : V} {n : Num} (k : Keeps d l H H') (D : DeckAt d l H) (h : NumAt K H v n) : NumAt K H' v n := by
  obtain ⟨p, t, rfl, h1, h2⟩ := h
  exact ⟨p, t, rfl, k.sqt D h1, k.sqt D h2⟩
structure GoodN (e : Int) (n : Num) : Prop where
  ok : NumOk e n
  six : n.2 ∣ 6
  small : ∀ t ∈ n.1, -3 ≤ t ∧ t ≤ 3
theorem er_deg : ∀ e ∈ ER, (unitsL e).length = (polyL e).length - 1 := by decide +kernel
theorem good_low {e : Int} (he : e ∈ ER) {tops : List Int} {b : Int} (hl : tops.length = (polyL e).length - 1) (h1 : 1 ≤ b) (h2 : b ≤ 3) (ht : ∀ t ∈ tops, -3 ≤ t ∧ t ≤ 3) : GoodN e (lowL tops b) := by
  have d := low_dvd tops b h1
  have p := low_pos (v := tops) h1
  have q := Int.le_of_dvd (by omega) d
  refine ⟨⟨by rw [low_len, hl, er_deg e he], p, by omega, low_low h1⟩, Int.dvd_trans d ?_, fun t h => ?_⟩
  · have : b = 1 ∨ b = 2 ∨ b = 3 := by omega
    rcases this with z | z | z <;> rw [z] <;> decide
  · obtain ⟨x, hx, rfl⟩ := List.mem_map.mp h
    have g := lowC_pos tops b h1
    have xb := ht x hx
    obtain ⟨c, hc⟩ := (lowC_dvd tops b).2 x hx
    have e1 : x / lowC tops b = c := by
      conv => lhs; lhs; rw [hc]
      exact Int.mul_ediv_cancel_left _ (by omega)
    rw [e1]
    generalize lowC tops b = G at g hc
    refine ⟨?_, ?_⟩
    · rcases Int.lt_or_le c 0 with z | z
      · have : G * c ≤ 1 * c := Int.mul_le_mul_of_nonpos_right g (by omega)
        omega
      · omega
    · rcases Int.lt_or_le c 0 with z | z
      · omega
      · have : 1 * c ≤ G * c := Int.mul_le_mul_of_nonneg_right g z
        omega
abbrev rGtI : R2 := rI0 fun i j => .bl (decide (j < i))
section
variable {P : Program} {w : World} {K : PySem.W.Frag} {mg : Str → Option Value} {base : Heap} {f f1 f2 f3 f4 f5 : Addr} {fd fd1 fd2 fd3 fd4 fd5 : FuncData}
def spLNumber (K : PySem.W.Frag) : Sp := fun vs H Q _ => ∃ (d l r : Addr) (e : Int), vs = [.ref d, .ref r, .int 3] ∧ e ∈ ER ∧ DeckAt d l H ∧ RingAt l H r e ∧ ∀ v n H', DeckAt d l H' → Keeps d l H H' → NumAt K H' v n → GoodN e n → Q v H'
abbrev lnN : List Str := ["deck", "ring", "size", "way", "d", "tops", "i"]
theorem scLN : FnScope lnN ["deck", "ring", "size"] (defScope sLNumber) := ⟨rfl, rfl, rfl, by decide +kernel, rfl, by decide +kernel, by decide +kernel⟩
theorem ok_lNumber (F : FnP K "_law_number" sLNumber f fd) (B : Bl mg) (F1 : FnP K "_law_draw" sDraw f1 fd1) (g1 : mg "_law_draw" = some (.ref f1)) (G1 : FnOk P w K mg base CX0 1 f1 fd1 ["deck", "many"] spDraw) (F2 : FnP K "_law_made" sLMade f2 fd2) (g2 : mg "_law_made" = some (.ref f2)) (G2 : FnOk P w K mg base CX0 2 f2 fd2 ["ring", "sums", "bottom"] (spLMade K)) :
    FnOk P w K mg base CX0 3 f fd ["deck", "ring", "size"] (spLNumber K) := by
  have b1 : Binds K fd1 ["deck", "many"] [] := F1.bindsN fun _ _ _ _ _ _ us hl => match us, hl with | [_, _], _ => rfl
  have b2 : Binds K fd2 ["ring", "sums", "bottom"] [] := F2.bindsN fun _ _ _ _ _ _ us hl => match us, hl with | [_, _, _], _ => rfl
  refine F.ok scLN (fun vs H Q E h => ?_) (fun cdv A outer s H vs Q E hr h => ?_)
  · obtain ⟨d, l, r, e, rfl, _⟩ := h
    rfl
  · obtain ⟨d, l, r, e, rfl, he, D, hRg, k⟩ := h
    refine ⟨_, PSs.nox (pss_cons (ps_asg (pe_tup (pa_cons (pe_call G1 (hr.mono (by decide)) rfl g1 F1.kp b1 .nil pass0 (pa_cons (pv 0) (pa_cons pe_int pa_nil))) (pa_cons (pe_op op_sub (pe_callB call_len_seq (by rfl) (B "len" (by decide +kernel)) PySem.boot_len (pa_cons (pv 1) pa_nil)) pe_int) pa_nil)))
        (pg_tup rfl (pgs_cons (pg_name (i := 3) scLN.nd rfl (Or.inr rfl)) (pgs_cons (pg_name (i := 4) scLN.nd rfl (Or.inl rfl)) pgs_nil))))
      (pss_cons (ps_setLc (i := 5) (own := [("i", 6)]) (g := gName 6) (tt := tYes)
          (te := tIf (tOr (tTest (tOp rGtI (tVar 3) (tC (.int 1)))) (tTest (tOp rEq (tVar 6) (tC (.int 0))))) (tOp rMinus (tCall spDraw [] E0 (tCons (tVar 0) (tCons (tOp rPlus (tOp rMul (tC (.int 2)) (tVar 2)) (tC (.int 1))) tNil))) (tVar 2)) (tC (.int 0))) rfl scLN.nd rfl rfl (sw_true rfl rfl rfl (by decide +kernel))
          (pi_range1 rfl (B "range" (by decide +kernel)) (pa_cons (pv 4) pa_nil)) (blkOk_by (own := [("i", 6)]) (N := lnN) (sc := defScope sLNumber) (by decide +kernel))
          (fun _ _ _ _ _ => pg_name (i := 6) scLN.nd rfl (Or.inl rfl)) (fun _ _ _ _ _ => pts_nil)
          (fun _ _ _ _ _ => pe_ifExp (PW.pt (pw_or (pt_cmpR op_gt (pv 3) pe_int (nomark _)) (pw_or1 (pt_cmpR op_eq (pv 6) pe_int (nomark _))))) (pe_op op_sub (pe_call G1 (hr.mono (by decide)) rfl g1 F1.kp b1 .nil pass0 (pa_cons (pv 0) (pa_cons (pe_op op_add (pe_op op_mul pe_int (pv 2)) pe_int) pa_nil))) (pv 2)) pe_int))
      (pss_cons (ps_if (pt_cmpR op_eq (pv 3) pe_int (nomark _)) (pss_one (ps_set (i := 5) scLN.nd rfl (Or.inl rfl) (pe_op op_rep (pe_lst (pa_cons pe_int pa_nil)) (pv 4)))) pss_nil)
      (pss_one (ps_ret (pe_call G2 hr rfl g2 F2.kp b2 .nil pass0 (pa_cons (pv 1) (pa_cons (pv 5) (pa_cons
        (pe_ifExp (PW.pt (pw_or (pt_cmpR op_gt (pv 3) pe_int (nomark _)) (pw_or1 (pt_cmpR op_eq (pv 3) pe_int (nomark _))))) (pe_op op_add pe_int (pe_call G1 (hr.mono (by decide)) rfl g1 F1.kp b1 .nil pass0 (pa_cons (pv 0) (pa_cons (pv 2) pa_nil)))) pe_int) pa_nil))))))))), ?_⟩
    obtain ⟨m1, m2, m3, m4⟩ := er_mon e he
    refine ⟨_, rfl, d, l, 7, rfl, D, by decide, by decide, fun wy H1 w0 w1 D1 k1 => ?_⟩
    have r1 := k1.ring D hRg
    refine ⟨_, rfl, r, _, rfl, .inl (SqL.of r1.1), _, _, rfl, rfl, by show 2 ≤ sizeLine; decide, fun pt hpt => ?_⟩
    have sp : Same H1 (upd H1 pt (.tup [.int wy, .int ((((polyL e).map V.int).length : Int) - 1)])) := same_upd hpt
    have ed : (((polyL e).map V.int).length : Int) - 1 = (((polyL e).length - 1 : Nat) : Int) := by rw [List.length_map]; omega
    refine ⟨pt, _, rfl, SqT.of upd_same, rfl, _, _, rfl, _, _, rfl, rfl, ?_⟩
    simp only [ed]
    rw [ed] at sp
    generalize upd H1 pt (.tup [.int wy, .int (((polyL e).length - 1 : Nat) : Int)]) = H2 at sp
    have D2 := sp.deck D1
    have k2 : Keeps d l H H2 := k1.trans (Same.keeps sp)
    have r2 := sp.ring r1
    generalize hdg : (polyL e).length - 1 = dgr at ed
    refine ⟨_, rfl, _, rfl, by omega, by omega, fun C hC => ?_⟩
    rw [Int.toNat_natCast]
    obtain ⟨⟨mm, jj, hd2⟩, ns2, hl2⟩ := deck_ref D2
    have Cd : C ≠ d := (ne_of_none hd2 hC).symm
    have Cl : C ≠ l := (ne_of_none hl2 hC).symm
    refine lc_range (lo := 0) (n := dgr) (fun i H3 => DeckAt d l H3 ∧ Keeps d l H2 H3 ∧ ∃ ts : List Int, H3 C = some (.lst (ts.map V.int)) ∧ ts.length = i ∧ ∀ t ∈ ts, -3 ≤ t ∧ t ≤ 3) ⟨D2.new hC, .new hC, [], upd_same, rfl, fun t ht => absurd ht (by simp)⟩ ?_ ?_
    · rintro i H3 hi ⟨D3, k3, ts, h3, tl, tb⟩
      refine ⟨rfl, ?_⟩
      have fin : ∀ (t : Int) (H4 : Hp), -3 ≤ t → t ≤ 3 → DeckAt d l H4 → Keeps d l H2 H4 → H4 C = some (.lst (ts.map V.int)) → ∃ acc, H4 C = some (.lst acc) ∧ acc.length < sizeLine ∧ (DeckAt d l (upd H4 C (.lst (acc ++ [.int t]))) ∧ Keeps d l H2 (upd H4 C (.lst (acc ++ [.int t]))) ∧ ∃ ts : List Int, upd H4 C (.lst (acc ++ [.int t])) C = some (.lst (ts.map V.int)) ∧ ts.length = i + 1 ∧ ∀ t ∈ ts, -3 ≤ t ∧ t ≤ 3) := by
        intro t H4 t0 t1 D4 k4 h4
        refine ⟨_, h4, sl_lt (by rw [List.length_map]; omega), ?_, ?_, ts ++ [t], ?_, by rw [List.length_append, tl]; rfl, fun x hx => ?_⟩
        · obtain ⟨n', m', j', e1, e2, e3⟩ := D4
          exact ⟨n', m', j', by rw [upd_ne Cd.symm]; exact e1, by rw [upd_ne Cl.symm]; exact e2, e3⟩
        · intro b o eb nb nl
          rw [upd_ne (ne_of_none eb hC)]
          exact k4 b o eb nb nl
        · rw [upd_same, List.map_append]
          rfl
        · rcases List.mem_append.mp hx with z | z
          · exact tb x z
          · rw [List.mem_singleton.mp z]
            exact ⟨t0, t1⟩
      have drawn : ∀ (Q2 : VK), (∀ (t : Int) (H4 : Hp), -3 ≤ t → t ≤ 3 → DeckAt d l H4 → Keeps d l H2 H4 → H4 C = some (.lst (ts.map V.int)) → Q2 (.int t) H4) → tOp rMinus (tCall spDraw [] E0 (tCons (tVar 0) (tCons (tOp rPlus (tOp rMul (tC (.int 2)) (tVar 2)) (tC (.int 1))) tNil))) (tVar 2) [some (.ref d), some (.ref r), some (.int 3), some (.int wy), some (.int (dgr : Int)), none, some (.int (0 + (i : Int)))] H3 Q2 := by
        intro Q2 q
        refine ⟨_, rfl, _, rfl, _, _, rfl, rfl, Or.inl ⟨by decide, by decide⟩, _, _, rfl, rfl, d, l, 7, rfl, D3, by decide, by decide, fun x H4 x0 x1 D4 k4 => ⟨_, rfl, _, _, rfl, rfl, ?_⟩⟩
        exact q _ H4 (by omega) (by omega) D4 (k3.trans k4) (k4 _ _ h3 Cd Cl)
      refine ⟨_, rfl, _, _, rfl, rfl, _, rfl, ?_⟩
      refine ite2 (fun _ => ?_) (fun _ => ?_)
      · exact drawn _ fun t H4 t0 t1 D4 k4 h4 => fin t H4 t0 t1 D4 k4 h4
      · refine ⟨_, rfl, rfl, _, rfl, ?_⟩
        refine ite2 (fun _ => ?_) (fun _ => ?_)
        · exact drawn _ fun t H4 t0 t1 D4 k4 h4 => fin t H4 t0 t1 D4 k4 h4
        · exact fin 0 H3 (by decide) (by decide) D3 k3 h3
    · rintro H3 ⟨D3, k3, ts, h3, tl, tb⟩
      have r3 := k3.ring D2 r2
      have kA := k2.trans k3
      have nC : H C = none → True := fun _ => trivial
      -- the list of tops, whichever it is, then made
      have goOn : ∀ (T : Addr) (H4 : Hp) (xs : List Int), DeckAt d l H4 → Keeps d l H H4 → RingAt l H4 r e → H4 T = some (.lst (xs.map V.int)) → T ≠ d → T ≠ l → xs.length = dgr → (∀ t ∈ xs, -3 ≤ t ∧ t ≤ 3) →
          (tRet (tCall (spLMade K) [] E0 (tCons (tVar 1) (tCons (tVar 5) (tCons (tIf (tOr (tTest (tOp (rI0 fun i j => V.bl (decide (j < i))) (tVar 3) (tC (V.int 3)))) (tTest (tOp rEq (tVar 3) (tC (V.int 1))))) (tOp (rI0 fun i j => V.int (i + j)) (tC (V.int 1)) (tCall spDraw [] E0 (tCons (tVar 0) (tCons (tVar 2) tNil)))) (tC (V.int 1))) tNil))))) { nx := fun x H' => Q V.non H', rt := Q } [some (.ref d), some (.ref r), some (.int 3), some (.int wy), some (.int (dgr : Int)), some (.ref T), none] H4 := by
        intro T H4 xs D4 k4 r4 hT Td Tl xl xb
        have made : ∀ (b : Int) (H5 : Hp), 1 ≤ b → b ≤ 3 → DeckAt d l H5 → Keeps d l H4 H5 → spLMade K [.ref r, .ref T, .int b] H5 Q E0 := by
          intro b H5 hb1 hb3 D5 k5
          have rr := k5.ring D4 r4
          refine ⟨r, T, xs, e, b, rfl, he, SqL.of rr.1, .inl (SqL.of (k5 _ _ hT Td Tl)), by rw [xl]; omega, hb1, by omega, fun v H6 s6 hv => ?_⟩
          rw [redL_low (by omega) (by omega)] at hv
          exact k v _ H6 (s6.deck D5) ((k4.trans k5).trans (Same.keeps s6)) hv (good_low he (by omega) hb1 hb3 xb)
        have drw : ∀ (Q2 : VK), (∀ (b : Int) (H5 : Hp), 1 ≤ b → b ≤ 3 → DeckAt d l H5 → Keeps d l H4 H5 → Q2 (.int b) H5) → tOp (rI0 fun i j => V.int (i + j)) (tC (V.int 1)) (tCall spDraw [] E0 (tCons (tVar 0) (tCons (tVar 2) tNil))) [some (.ref d), some (.ref r), some (.int 3), some (.int wy), some (.int (dgr : Int)), some (.ref T), none] H4 Q2 := by
          intro Q2 q
          exact ⟨_, rfl, _, rfl, d, l, 3, rfl, D4, by decide, by decide, fun x H5 x0 x1 D5 k5 => ⟨_, _, rfl, rfl, q _ H5 (by omega) (by omega) D5 k5⟩⟩
        refine ⟨_, rfl, _, rfl, _, rfl, _, _, rfl, rfl, _, rfl, ?_⟩
        refine ite2 (fun _ => ?_) (fun _ => ?_)
        · exact drw _ fun b H5 hb1 hb3 D5 k5 => made b H5 hb1 hb3 D5 k5
        · refine ⟨_, rfl, rfl, _, rfl, ?_⟩
          refine ite2 (fun _ => ?_) (fun _ => ?_)
          · exact drw _ fun b H5 hb1 hb3 D5 k5 => made b H5 hb1 hb3 D5 k5
          · exact made 1 H4 (by decide) (by decide) D4 .refl
      refine ⟨_, rfl, rfl, _, rfl, ?_⟩
      refine ite2 (fun _ => ?_) (fun _ => ?_)
      · refine ⟨by show 1 ≤ sizeLine; decide, fun z hz => ?_⟩
        have sz : Same H3 (upd H3 z (.lst [.int 0])) := same_upd hz
        refine ⟨_, rfl, z, _, _, rfl, rfl, upd_same, by omega, by omega, sl_1000 (by simp; omega), fun T hT => ?_⟩
        rw [rep_flat, Int.toNat_natCast]
        have sT := same_new (o := .lst (List.replicate dgr (V.int 0))) sz hT
        have DT := sT.deck D3
        obtain ⟨⟨mm2, jj2, hd3⟩, ns3, hl3⟩ := deck_ref D3
        have gT : upd (upd H3 z (.lst [.int 0])) T (.lst (List.replicate dgr (V.int 0))) T = some (.lst ((List.replicate dgr (0 : Int)).map V.int)) := by
          rw [upd_same]
          simp
        exact goOn T _ (List.replicate dgr 0) DT (kA.trans (Same.keeps sT)) (sT.ring r3) gT (ne_of_none (sz _ _ hd3) hT).symm (ne_of_none (sz _ _ hl3) hT).symm (by simp) (fun t ht => by rw [(List.mem_replicate.mp ht).2]; omega)
      · exact goOn C H3 ts D3 kA r3 h3 Cd Cl tl tb
end
end K09

/-! The law's rows. -/
namespace K09
open PySem PySem.Spec PyProof.Rows L2
theorem low_one (t : List Int) : lowL t 1 = (t, 1) := by
  have g := lowC_dvd t 1
  have p := lowC_pos t 1 (Int.le_refl _)
  have e : lowC t 1 = 1 := by
    have := Int.le_of_dvd (by decide) g.1
    omega
  unfold lowL
  rw [e]
  simp
theorem red_whole {dv : List Int} (hd : 2 ≤ dv.length) (x : Int) : redL [x] dv = x :: List.replicate (dv.length - 2) 0 := by
  refine ext_getD (by rw [redL_len' (by omega)]; simp; omega) fun j hj => ?_
  rw [redL_len' (by omega)] at hj
  rw [red_ph (by omega) hj, ph_low _ _ (by simp; omega)]
  cases j with
  | zero => rfl
  | succ j =>
    rw [List.getD_eq_getElem?_getD, List.getD_eq_getElem?_getD]
    simp [List.getElem?_replicate]
    split <;> rfl
theorem good_whole {e : Int} (he : e ∈ ER) {x : Int} (h1 : -3 ≤ x) (h2 : x ≤ 3) : GoodN e (lowL (redL [x] (polyL e)) 1) := by
  obtain ⟨m1, m2, m3, m4⟩ := er_mon e he
  refine good_low he (redL_len' (by omega)) (by decide) (by decide) fun t ht => ?_
  rw [red_whole m1] at ht
  rcases List.mem_cons.mp ht with rfl | z
  · exact ⟨h1, h2⟩
  · rw [(List.mem_replicate.mp z).2]
    decide
theorem Keeps.nums {d l : Addr} {K : PySem.W.Frag} {H H' : Hp} {vs : List V} {ns : List Num} (k : Keeps d l H H') (D : DeckAt d l H) (h : Nums K H vs ns) : Nums K H' vs ns := ⟨h.1, fun i v n e1 e2 => k.num D (h.2 i v n e1 e2)⟩
theorem nums_at {K : PySem.W.Frag} {H : Hp} {vs : List V} {ns : List Num} {D : Addr} {ys : List V} {o : HO} (h : Nums K H vs ns) (hD : H D = some (.lst ys)) : Nums K (upd H D o) vs ns := ⟨h.1, fun i v n e1 e2 => num_at (h.2 i v n e1 e2) hD⟩
theorem DeckAt.off {d l D : Addr} {H : Hp} {o : HO} (h : DeckAt d l H) (h1 : D ≠ d) (h2 : D ≠ l) : DeckAt d l (upd H D o) := by
  obtain ⟨n', m', j', e1, e2, e3⟩ := h
  exact ⟨n', m', j', by rw [upd_ne h1.symm]; exact e1, by rw [upd_ne h2.symm]; exact e2, e3⟩
section
variable {P : Program} {w : World} {K : PySem.W.Frag} {mg : Str → Option Value} {base : Heap} {f f1 f2 f3 f4 f5 : Addr} {fd fd1 fd2 fd3 fd4 fd5 : FuncData}
def spLRow (K : PySem.W.Frag) : Sp := fun vs H Q _ => ∃ (d l r : Addr) (e : Int) (n : Nat), vs = [.ref d, .ref r, .int (n : Int)] ∧ e ∈ ER ∧ n ≤ 16 ∧ DeckAt d l H ∧ RingAt l H r e ∧ ∀ v ns H', DeckAt d l H' → Keeps d l H H' → RowAt K H' v ns → ns.length = n → (∀ m ∈ ns, GoodN e m) → Q v H'
abbrev lwN : List Str := ["deck", "ring", "n", "way", "row", "at", "whole"]
theorem scLW : FnScope lwN ["deck", "ring", "n"] (defScope sLRow) := ⟨rfl, rfl, rfl, by decide +kernel, rfl, by decide +kernel, by decide +kernel⟩
theorem ok_lRow (F : FnP K "_law_row" sLRow f fd) (B : Bl mg) (F1 : FnP K "_law_draw" sDraw f1 fd1) (g1 : mg "_law_draw" = some (.ref f1)) (G1 : FnOk P w K mg base CX0 1 f1 fd1 ["deck", "many"] spDraw) (F2 : FnP K "_law_made" sLMade f2 fd2) (g2 : mg "_law_made" = some (.ref f2)) (G2 : FnOk P w K mg base CX0 2 f2 fd2 ["ring", "sums", "bottom"] (spLMade K))
    (F3 : FnP K "_law_number" sLNumber f3 fd3) (g3 : mg "_law_number" = some (.ref f3)) (G3 : FnOk P w K mg base CX0 3 f3 fd3 ["deck", "ring", "size"] (spLNumber K)) : FnOk P w K mg base CX0 4 f fd ["deck", "ring", "n"] (spLRow K) := by
  have b1 : Binds K fd1 ["deck", "many"] [] := F1.bindsN fun _ _ _ _ _ _ us hl => match us, hl with | [_, _], _ => rfl
  have b2 : Binds K fd2 ["ring", "sums", "bottom"] [] := F2.bindsN fun _ _ _ _ _ _ us hl => match us, hl with | [_, _, _], _ => rfl
  have b3 : Binds K fd3 ["deck", "ring", "size"] [] := F3.bindsN fun _ _ _ _ _ _ us hl => match us, hl with | [_, _, _], _ => rfl
  refine F.ok scLW (fun vs H Q E h => ?_) (fun cdv A outer s H vs Q E hr h => ?_)
  · obtain ⟨d, l, r, e, n, rfl, _⟩ := h
    rfl
  · obtain ⟨d, l, r, e, n, rfl, he, n16, D, hRg, k⟩ := h
    refine ⟨_, PSs.nox (pss_cons (ps_par (i := 3) (j := 4) rfl scLW.nd rfl rfl (by decide) rfl rfl (pa_cons (pe_call G1 (hr.mono (by decide)) rfl g1 F1.kp b1 .nil pass0 (pa_cons (pv 0) (pa_cons pe_int pa_nil))) (pa_cons (pe_lst pa_nil) pa_nil)) rfl)
      (pss_cons (ps_for PassesOwn.never rfl (pi_range1 rfl (B "range" (by decide +kernel)) (pa_cons (pv 2) pa_nil)) (pg_name (i := 5) scLW.nd rfl (Or.inl rfl))
        (pss_one (ps_if (PW.pt (pw_or (pt_cmpR op_eq (pv 3) pe_int (nomark _)) (pw_or1 (PW.pt (pw_and (pt_cmpR op_eq (pv 3) pe_int (nomark _)) (pw_and1 (pt_cmpR op_eq (pe_call G1 (hr.mono (by decide)) rfl g1 F1.kp b1 .nil pass0 (pa_cons (pv 0) (pa_cons pe_int pa_nil))) pe_int (nomark _))))))))
          (pss_one (ps_expr (pe_bm PySem.F.plainAttrs_list PySem.F.slot_list_append PySem.F.type_list_append mt_append (pv 4) (pa_cons (pe_call G3 hr rfl g3 F3.kp b3 .nil pass0 (pa_cons (pv 0) (pa_cons (pv 1) (pa_cons pe_int pa_nil)))) pa_nil))))
          (pss_cons (ps_set (i := 6) scLW.nd rfl (Or.inl rfl) (pe_ifExp (PW.pt (pw_or (pt_cmpR op_gt (pv 3) pe_int (nomark _)) (pw_or1 (pt_cmpR op_eq (pe_call G1 (hr.mono (by decide)) rfl g1 F1.kp b1 .nil pass0 (pa_cons (pv 0) (pa_cons pe_int pa_nil))) pe_int (nomark _))))) (pe_op op_sub (pe_call G1 (hr.mono (by decide)) rfl g1 F1.kp b1 .nil pass0 (pa_cons (pv 0) (pa_cons pe_int pa_nil))) pe_int) pe_int))
          (pss_one (ps_expr (pe_bm PySem.F.plainAttrs_list PySem.F.slot_list_append PySem.F.type_list_append mt_append (pv 4) (pa_cons (pe_call G2 (hr.mono (by decide)) rfl g2 F2.kp b2 .nil pass0 (pa_cons (pv 1) (pa_cons (pe_lst (pa_cons (pv 6) pa_nil)) (pa_cons pe_int pa_nil)))) pa_nil))))))))
      (pss_one (ps_ret (pe_callTy call_tuple_of (by rfl) (B "tuple" (by decide +kernel)) (by decide +kernel) (pa_cons (pv 4) pa_nil)))))), ?_⟩
    refine ⟨_, rfl, d, l, 5, rfl, D, by decide, by decide, fun wy H1 w0 w1 D1 k1 => ⟨by decide, fun R hR => ⟨_, _, rfl, ?_⟩⟩⟩
    obtain ⟨⟨mm, jj, hd1⟩, ns1, hl1⟩ := deck_ref D1
    have Rd : R ≠ d := (ne_of_none hd1 hR).symm
    have Rl : R ≠ l := (ne_of_none hl1 hR).symm
    have kR : Keeps d l H1 (upd H1 R (.lst [])) := .new hR
    refine ⟨_, rfl, (n : Int), rfl, by omega, by omega, ?_⟩
    rw [Int.toNat_natCast]
    refine for_range (lo := 0) (n := n) (fun i σ H2 => ∃ u5 u6, σ = [some (.ref d), some (.ref r), some (.int (n : Int)), some (.int wy), some (.ref R), u5, u6] ∧ DeckAt d l H2 ∧ Keeps d l H1 H2 ∧ ∃ vs ns, H2 R = some (.lst vs) ∧ Nums K H2 vs ns ∧ ns.length = i ∧ ∀ m ∈ ns, GoodN e m)
      ⟨none, none, rfl, D1.new hR, kR, [], [], upd_same, nums_nil, rfl, fun m hm => absurd hm (by simp)⟩ ?_ ?_
    · rintro i σ H2 hi ⟨u5, u6, rfl, D2, k2, vs, ns, h2, hN, nl, gd⟩
      have r2 := k2.ring D1 (k1.ring D hRg)
      have more : ∀ (H3 : Hp) (v : V) (m : Num) (u5 u6 : Option V), DeckAt d l H3 → Keeps d l H2 H3 → NumAt K H3 v m → GoodN e m → ∃ v5 v6, [some (V.ref d), some (.ref r), some (.int (n : Int)), some (.int wy), some (.ref R), u5, u6] = [some (.ref d), some (.ref r), some (.int (n : Int)), some (.int wy), some (.ref R), v5, v6] ∧ DeckAt d l (upd H3 R (.lst (vs ++ [v]))) ∧ Keeps d l H1 (upd H3 R (.lst (vs ++ [v]))) ∧ ∃ vs' ns, upd H3 R (.lst (vs ++ [v])) R = some (.lst vs') ∧ Nums K (upd H3 R (.lst (vs ++ [v]))) vs' ns ∧ ns.length = i + 1 ∧ ∀ m ∈ ns, GoodN e m := by
        intro H3 v m u5 u6 D3 k3 hv gm
        have h3 := k3 _ _ h2 Rd Rl
        refine ⟨u5, u6, rfl, D3.off Rd Rl, fun b o eb nb nl' => ?_, vs ++ [v], ns ++ [m], upd_same, ?_, by rw [List.length_append, nl]; rfl, fun x hx => ?_⟩
        · rw [upd_ne (ne_of_none eb hR)]
          exact (k2.trans k3) b o eb nb nl'
        · exact (nums_at (k3.nums D2 hN) h3).snoc (num_at hv h3)
        · rcases List.mem_append.mp hx with z | z
          · exact gd x z
          · rw [List.mem_singleton.mp z]
            exact gm
      have vl : vs.length < sizeLine := sl_lt (by rw [hN.1]; omega)
      have doA : ∀ (D' : Ends) (H3 : Hp) (u5 u6 : Option V), DeckAt d l H3 → Keeps d l H2 H3 → (∀ (H4 : Hp) (v : V) (m : Num), DeckAt d l H4 → Keeps d l H2 H4 → NumAt K H4 v m → GoodN e m → D'.nx [some (V.ref d), some (.ref r), some (.int (n : Int)), some (.int wy), some (.ref R), u5, u6] (upd H4 R (.lst (vs ++ [v])))) →
          tDrop (tBM K "list" rAppend (tVar 4) (tCons (tCall (spLNumber K) [] E0 (tCons (tVar 0) (tCons (tVar 1) (tCons (tC (.int 3)) tNil)))) tNil)) D' [some (V.ref d), some (.ref r), some (.int (n : Int)), some (.int wy), some (.ref R), u5, u6] H3 := by
        intro D' H3 u5 u6 D3 k3 fin
        have h3 := k3 _ _ h2 Rd Rl
        refine ⟨_, rfl, Or.inl ⟨rfl, _, SqL.of h3⟩, _, rfl, _, rfl, d, l, r, e, rfl, he, D3, k3.ring D2 r2, fun v m H4 D4 k4 hv gm => ?_⟩
        exact ⟨R, vs, v, rfl, rfl, k4 _ _ h3 Rd Rl, vl, fin H4 v m D4 (k3.trans k4) hv gm⟩
      have doB : ∀ (D' : Ends) (H3 : Hp) (u5 u6 : Option V) (x : Int), -3 ≤ x → x ≤ 3 → DeckAt d l H3 → Keeps d l H2 H3 → (∀ (H4 : Hp) (v : V) (m : Num), DeckAt d l H4 → Keeps d l H2 H4 → NumAt K H4 v m → GoodN e m → D'.nx [some (V.ref d), some (.ref r), some (.int (n : Int)), some (.int wy), some (.ref R), u5, some (.int x)] (upd H4 R (.lst (vs ++ [v])))) →
          tDrop (tBM K "list" rAppend (tVar 4) (tCons (tCall (spLMade K) [] E0 (tCons (tVar 1) (tCons (tLst (tCons (tVar 6) tNil)) (tCons (tC (.int 1)) tNil)))) tNil)) D' [some (V.ref d), some (.ref r), some (.int (n : Int)), some (.int wy), some (.ref R), u5, some (.int x)] H3 := by
        intro D' H3 u5 u6 x x0 x1 D3 k3 fin
        have h3 := k3 _ _ h2 Rd Rl
        have r3 := k3.ring D2 r2
        refine ⟨_, rfl, Or.inl ⟨rfl, _, SqL.of h3⟩, _, rfl, _, rfl, by show 1 ≤ sizeLine; decide, fun z hz => ?_⟩
        have sz : Same H3 (upd H3 z (.lst [.int x])) := same_upd hz
        refine ⟨r, z, [x], e, 1, rfl, he, SqL.of (sz _ _ r3.1), .inl (SqL.of upd_same), by show 1 ≤ 100; decide, by decide, by decide, fun v H4 s4 hv => ?_⟩
        have s34 := sz.trans s4
        exact ⟨R, vs, v, rfl, rfl, s34 _ _ h3, vl, fin H4 v _ (s34.deck D3) (k3.trans (Same.keeps s34)) hv (good_whole he x0 x1)⟩
      have doC : ∀ (D' : Ends) (H3 : Hp) (u5 u6 : Option V), DeckAt d l H3 → Keeps d l H2 H3 → (∀ (H4 : Hp) (v : V) (m : Num) (u6 : Option V), DeckAt d l H4 → Keeps d l H2 H4 → NumAt K H4 v m → GoodN e m → D'.nx [some (V.ref d), some (.ref r), some (.int (n : Int)), some (.int wy), some (.ref R), u5, u6] (upd H4 R (.lst (vs ++ [v])))) →
          tSeq (tAsg (tIf (tOr (tTest (tOp rGtI (tVar 3) (tC (.int 2)))) (tTest (tOp rEq (tCall spDraw [] E0 (tCons (tVar 0) (tCons (tC (.int 3)) tNil))) (tC (.int 0))))) (tOp rMinus (tCall spDraw [] E0 (tCons (tVar 0) (tCons (tC (.int 7)) tNil))) (tC (.int 3))) (tC (.int 0))) (gName 6))
            (tDrop (tBM K "list" rAppend (tVar 4) (tCons (tCall (spLMade K) [] E0 (tCons (tVar 1) (tCons (tLst (tCons (tVar 6) tNil)) (tCons (tC (.int 1)) tNil)))) tNil))) D' [some (V.ref d), some (.ref r), some (.int (n : Int)), some (.int wy), some (.ref R), u5, u6] H3 := by
        intro D' H3 u5 u6 D3 k3 fin
        have dr : ∀ (H4 : Hp), DeckAt d l H4 → Keeps d l H2 H4 → ∀ Q2 : VK, (∀ (x : Int) (H5 : Hp), -3 ≤ x → x ≤ 3 → DeckAt d l H5 → Keeps d l H2 H5 → Q2 (.int x) H5) → tOp rMinus (tCall spDraw [] E0 (tCons (tVar 0) (tCons (tC (.int 7)) tNil))) (tC (.int 3)) [some (V.ref d), some (.ref r), some (.int (n : Int)), some (.int wy), some (.ref R), u5, u6] H4 Q2 := by
          intro H4 D4 k4 Q2 q
          exact ⟨_, rfl, d, l, 7, rfl, D4, by decide, by decide, fun x H5 x0 x1 D5 k5 => ⟨_, _, rfl, rfl, q _ H5 (by omega) (by omega) D5 (k4.trans k5)⟩⟩
        have fx : ∀ (x : Int) (H5 : Hp), -3 ≤ x → x ≤ 3 → DeckAt d l H5 → Keeps d l H2 H5 → tDrop (tBM K "list" rAppend (tVar 4) (tCons (tCall (spLMade K) [] E0 (tCons (tVar 1) (tCons (tLst (tCons (tVar 6) tNil)) (tCons (tC (.int 1)) tNil)))) tNil)) D' [some (V.ref d), some (.ref r), some (.int (n : Int)), some (.int wy), some (.ref R), u5, some (.int x)] H5 :=
          fun x H5 x0 x1 D5 k5 => doB D' H5 u5 none x x0 x1 D5 k5 fun H4 v m D4 k4 hv gm => fin H4 v m _ D4 k4 hv gm
        refine seq_asg ?_
        refine ⟨_, rfl, _, _, rfl, rfl, _, rfl, ?_⟩
        refine ite2 (fun _ => ?_) (fun _ => ?_)
        · exact dr H3 D3 k3 _ fun x H5 x0 x1 D5 k5 => fx x H5 x0 x1 D5 k5
        · refine ⟨_, rfl, d, l, 3, rfl, D3, by decide, by decide, fun x H4 x0 x1 D4 k4 => ⟨rfl, _, rfl, ?_⟩⟩
          refine ite2 (fun _ => ?_) (fun _ => ?_)
          · exact dr H4 D4 (k3.trans k4) _ fun x H5 x0 x1 D5 k5 => fx x H5 x0 x1 D5 k5
          · exact fx 0 H4 (by decide) (by decide) D4 (k3.trans k4)
      refine ⟨_, rfl, rfl, _, rfl, ?_⟩
      refine ite2 (fun _ => ?_) (fun _ => ?_)
      · exact doA _ H2 _ _ D2 .refl fun H4 v m D4 k4 hv gm => more H4 v m _ _ D4 k4 hv gm
      · refine ⟨_, rfl, rfl, _, rfl, ?_⟩
        refine ite2 (fun _ => ?_) (fun _ => ?_)
        · refine ⟨_, rfl, d, l, 2, rfl, D2, by decide, by decide, fun x H3 x0 x1 D3 k3 => ⟨rfl, _, rfl, ?_⟩⟩
          refine ite2 (fun _ => ?_) (fun _ => ?_)
          · exact doA _ H3 _ _ D3 k3 fun H4 v m D4 k4 hv gm => more H4 v m _ _ D4 k4 hv gm
          · exact doC _ H3 _ _ D3 k3 fun H4 v m u6 D4 k4 hv gm => more H4 v m _ u6 D4 k4 hv gm
        · refine iteF ?_
          exact doC _ H2 _ _ D2 .refl fun H4 v m u6 D4 k4 hv gm => more H4 v m _ u6 D4 k4 hv gm
    · rintro σ H2 ⟨u5, u6, rfl, D2, k2, vs, ns, h2, hN, nl, gd⟩
      refine ⟨_, rfl, R, _, rfl, .inl ⟨SqL.of h2, fun t ht => ?_⟩⟩
      have st : Same H2 (upd H2 t (.tup vs)) := same_upd ht
      exact k _ ns _ (st.deck D2) ((k1.trans k2).trans (Same.keeps st)) ⟨t, vs, rfl, SqT.of upd_same, st.nums hN⟩ nl gd
end
end K09

/-! A number times a turn. -/
namespace K09
open PySem PySem.Spec PyProof.Rows L2
theorem turn_co {r : List Int} (h : r ∈ RR) (p : Int) {k : Nat} (hk : k < dg r) : (turnL (ordL r) p).1.getD k 0 = Tz (dg r) (polyL (ordL r)) k (p % ordL r).toNat := by
  have hp := poly_len h
  unfold turnL
  show (redL _ _).getD k 0 = _
  rw [red_ph (by omega) hk]
  show ph (dg r) (polyL (ordL r)) k _ = _
  rw [ph_snoc, List.length_replicate, Int.one_mul]
  have z : ph (dg r) (polyL (ordL r)) k (List.replicate (p % ordL r).toNat 0) = 0 := dotc_zero _ _
  rw [z, Int.zero_add]
theorem numC_turn {r : List Int} (h : r ∈ RR) (p : Int) : NumC (dg r) (turnL (ordL r) p) := by
  have hp := poly_len h
  refine ⟨redL_len' (by omega), Int.le_refl _, ?_⟩
  unfold turnL
  exact low_one _
theorem mv_turn {r : List Int} (h : r ∈ RR) (a : List Int) (p : Int) (j : Nat) :
    mv r a (fun k => (turnL (ordL r) p).1.getD k 0) j = tn (dg r) (polyL (ordL r)) (p % ordL r).toNat (fun k => a.getD k 0) j := by
  have d1 := (tabs_of h).d1
  rw [mv_congr (w := fun k => Tz (dg r) (polyL (ordL r)) k (p % ordL r).toNat) (fun k hk => turn_co h p hk) j]
  unfold mv
  have e : ∀ i, i < dg r → a.getD i 0 * tn (dg r) (polyL (ordL r)) i (fun k => Tz (dg r) (polyL (ordL r)) k (p % ordL r).toNat) j = a.getD i 0 * Tz (dg r) (polyL (ordL r)) j ((p % ordL r).toNat + i) := fun i _ => by
    rw [tn_T _ _ _ _ d1, Nat.add_comm]
  rw [sm_congr e]
  rfl
/-- a number times a turn, as fractions -/
theorem Rp_turn {r : List Int} (h : r ∈ RR) {a : Num} {M : Int} {w : Nat → Int} (ha : NumC (dg r) a) (ra : Rp (dg r) a M w) (p : Int) :
    Rp (dg r) (prodL (ordL r) a (turnL (ordL r) p)) M (tn (dg r) (polyL (ordL r)) (p % ordL r).toNat w) := by
  have q := Rp_prod h ha (numC_turn h p) (Rp_self (dg r) (turnL (ordL r) p))
  intro j hj
  have q1 := q j hj
  rw [mv_turn h] at q1
  have q2 : (prodL (ordL r) a (turnL (ordL r) p)).2 * tn (dg r) (polyL (ordL r)) (p % ordL r).toNat (fun k => a.1.getD k 0) j = a.2 * (prodL (ordL r) a (turnL (ordL r) p)).1.getD j 0 := by
    rw [q1]
    show a.2 * 1 * _ = _
    rw [Int.mul_one]
  have e1 : a.2 * tn (dg r) (polyL (ordL r)) (p % ordL r).toNat w j = M * tn (dg r) (polyL (ordL r)) (p % ordL r).toNat (fun k => a.1.getD k 0) j := by
    rw [← tn_mul, ← tn_mul]
    exact tn_congr fun k hk => ra k hk
  refine icancel ha.pos ?_
  generalize tn (dg r) (polyL (ordL r)) (p % ordL r).toNat w j = x at e1
  generalize tn (dg r) (polyL (ordL r)) (p % ordL r).toNat (fun k => a.1.getD k 0) j = y at e1 q2
  generalize (prodL (ordL r) a (turnL (ordL r) p)).1.getD j 0 = u at q2
  generalize (prodL (ordL r) a (turnL (ordL r) p)).2 = v at q2
  have s1 : a.2 * (v * x) = v * (a.2 * x) := by rw [← Int.mul_assoc, ← Int.mul_assoc, Int.mul_comm a.2 v]
  have s2 : a.2 * (M * u) = M * (a.2 * u) := by rw [← Int.mul_assoc, ← Int.mul_assoc, Int.mul_comm a.2 M]
  rw [s1, s2, e1, ← q2, ← Int.mul_assoc, ← Int.mul_assoc, Int.mul_comm v M]
end K09

/-! Indexes of moved places. -/
namespace K09
open PySem PySem.Spec PyProof.Rows L2
def mvI (r s : List Int) (i : Nat) : Nat := (movP r s).idxOf ((placesL r).getD i [])
def fwI (r s : List Int) (b : Nat) : Nat := (placesL r).idxOf (sumP r ((placesL r).getD b []) s)
theorem at_pl {r : List Int} {i : Nat} (hi : i < (placesL r).length) : (placesL r)[i]? = some ((placesL r).getD i []) ∧ (placesL r).getD i [] ∈ placesL r := by
  have h := List.getElem?_eq_getElem hi
  have e : (placesL r).getD i [] = (placesL r)[i] := by rw [List.getD_eq_getElem?_getD, h]; rfl
  rw [e]
  exact ⟨h, List.getElem_mem hi⟩
theorem fw_ok {r s : List Int} (h : r ∈ RR) (hs : s ∈ placesL r) {b : Nat} (hb : b < (placesL r).length) : fwI r s b < (placesL r).length ∧ (placesL r).getD (fwI r s b) [] = sumP r ((placesL r).getD b []) s ∧ mvI r s (fwI r s b) = b := by
  have p := at_pl hb
  have m := sum_in r h _ p.2 s hs
  have g := idx_get m
  have e : (placesL r).getD (fwI r s b) [] = sumP r ((placesL r).getD b []) s := by
    unfold fwI
    rw [List.getD_eq_getElem?_getD (i := (placesL r).idxOf _), g]
    rfl
  refine ⟨List.idxOf_lt_length_iff.mpr m, e, ?_⟩
  unfold mvI
  rw [e, mov_idx h hs p.2 rfl]
  exact idx_at (rr_nd r h) p.1
theorem mv_ok {r s : List Int} (h : r ∈ RR) (hs : s ∈ placesL r) {i : Nat} (hi : i < (placesL r).length) : mvI r s i < (placesL r).length ∧ fwI r s (mvI r s i) = i := by
  have p := at_pl hi
  obtain ⟨y, hy, e⟩ := mov_pre h hs p.2
  have e1 : mvI r s i = (placesL r).idxOf y := mov_idx h hs hy e
  have ly := List.idxOf_lt_length_iff.mpr hy
  refine ⟨by rw [e1]; exact ly, ?_⟩
  unfold fwI
  have g : (placesL r).getD (mvI r s i) [] = y := by
    rw [e1, List.getD_eq_getElem?_getD, idx_get hy]
    rfl
  rw [g, e]
  exact idx_at (rr_nd r h) p.1
theorem mov_some {r s : List Int} (h : r ∈ RR) (hs : s ∈ placesL r) {ns : List Num} (hl : ns.length = (placesL r).length) {i : Nat} {n : Num} (hn : (movL r s ns)[i]? = some n) : i < (placesL r).length ∧ ns[mvI r s i]? = some n := by
  have hi : i < (placesL r).length := by
    have q := ltL hn
    unfold movL at q
    rw [laidL_len] at q
    exact q
  refine ⟨hi, ?_⟩
  unfold movL at hn
  rw [laid_get (at_pl hi).1] at hn
  have o := (mv_ok h hs hi).1
  have g := List.getElem?_eq_getElem (show mvI r s i < ns.length by omega)
  unfold mvI at o g ⊢
  rw [List.getD_eq_getElem?_getD, g] at hn
  rw [g]
  exact hn
theorem dif_sum : ∀ r ∈ RR, ∀ x ∈ placesL r, ∀ s ∈ placesL r, difL r (sumP r x s) s = x := by decide +kernel
theorem pair_sum {r s x l : List Int} (h : r ∈ RR) (hx : x ∈ placesL r) (hs : s ∈ placesL r) : (pairL r (ordL r) (sumP r x s) l - pairL r (ordL r) s l) % ordL r = pairL r (ordL r) x l := by
  have he := er_bd _ (er_in r h)
  rw [pair_difL (by omega) _ _ _ (fun k hk => div_ok r h k (List.mem_range.mpr hk)), dif_sum r h x hx s hs]
end K09

/-! The voices of a moved row. -/
namespace K09
open PySem PySem.Spec PyProof.Rows L2
theorem tn_eqv {deg : Nat} {dv : List Int} {p q e j : Nat} {v : Nat → Int} (per : ∀ i, Tz deg dv j (i + e) = Tz deg dv j i) (h : p % e = q % e) : tn deg dv p v j = tn deg dv q v j :=
  sm_congr fun k _ => by rw [T_eqv per (show (p + k) % e = (q + k) % e by rw [Nat.add_mod, h, ← Nat.add_mod])]
theorem pw_sum {r s x l : List Int} (h : r ∈ RR) (hx : x ∈ placesL r) (hs : s ∈ placesL r) : pw r (ordL r) 1 (sumP r x s) l % (ordL r).toNat = ((pairL r (ordL r) s l % ordL r).toNat + pw r (ordL r) 1 x l) % (ordL r).toNat := by
  have eb := er_bd _ (er_in r h)
  have he : 0 < ordL r := by omega
  have q := pair_sum (l := l) h hx hs
  have c1 := Int.emod_nonneg (1 * pairL r (ordL r) (sumP r x s) l) (show ordL r ≠ 0 by omega)
  have c2 := Int.emod_nonneg (pairL r (ordL r) s l) (show ordL r ≠ 0 by omega)
  have c3 := Int.emod_nonneg (1 * pairL r (ordL r) x l) (show ordL r ≠ 0 by omega)
  unfold pw
  apply Int.ofNat_inj.mp
  rw [Int.natCast_emod, Int.natCast_emod, Int.natCast_add, Int.toNat_of_nonneg c1, Int.toNat_of_nonneg c2, Int.toNat_of_nonneg c3, Int.toNat_of_nonneg (show 0 ≤ ordL r by omega), Int.one_mul, Int.one_mul, Int.emod_emod, Int.emod_add_emod, Int.add_emod_emod, ← q, Int.add_emod_emod]
  congr 1
  omega
/-- the voices of a moved row, by the turns -/
def turnedV (r s : List Int) (vs : List Num) : List Num := (List.range (placesL r).length).map fun i => prodL (ordL r) (vs.getD i ([], 1)) (turnL (ordL r) (pairL r (ordL r) s ((placesL r).getD i [])))
theorem turned_some {r s : List Int} {vs : List Num} (hl : vs.length = (placesL r).length) {i : Nat} {n : Num} (hn : (turnedV r s vs)[i]? = some n) : i < (placesL r).length ∧ ∃ a, vs[i]? = some a ∧ n = prodL (ordL r) a (turnL (ordL r) (pairL r (ordL r) s ((placesL r).getD i []))) := by
  have hi : i < (placesL r).length := by
    have q := ltL hn
    unfold turnedV at q
    rw [List.length_map, List.length_range] at q
    exact q
  refine ⟨hi, ?_⟩
  have g := List.getElem?_eq_getElem (show i < vs.length by omega)
  unfold turnedV at hn
  rw [List.getElem?_map, List.getElem?_range hi] at hn
  refine ⟨_, g, ?_⟩
  have e := (Option.some.inj hn).symm
  have g2 : vs.getD i ([], 1) = vs[i] := by
    rw [List.getD_eq_getElem?_getD, g]
    rfl
  rw [← g2]
  exact e
theorem rowC_turned {r s : List Int} (h : r ∈ RR) {vs : List Num} (C : RowC r vs) : RowC r (turnedV r s vs) := by
  refine ⟨by unfold turnedV; rw [List.length_map, List.length_range], fun n hn => ?_⟩
  obtain ⟨i, hi⟩ := List.mem_iff_getElem?.mp hn
  obtain ⟨_, a, ha, rfl⟩ := turned_some C.len hi
  exact numC_prod h (C.num a (List.mem_of_getElem? ha)) (numC_turn h _)
theorem vo_mov {r s : List Int} (h : r ∈ RR) (hs : s ∈ placesL r) {ns : List Num} (C : RowC r ns) : voL r (movL r s ns) = turnedV r s (voL r ns) := by
  have hB : 1 ≤ levB ns := levB_pos fun n hn => (C.num n hn).pos
  have Cm : RowC r (movL r s ns) := rowC_laid C (movP_len r s) (mov_all r h s hs)
  have T := tabs_of h
  refine rows_eq (rowC_vo h Cm) (rowC_turned h (rowC_vo h C)) hB (w := fun i => tn (dg r) (polyL (ordL r)) (pairL r (ordL r) s ((placesL r).getD i []) % ordL r).toNat (Tq r 1 (pl r i) (wv (levT ns)))) (fun i n hn => ?_) (fun i n hn => ?_)
  · have hi := (voL_get hn).1
    have q := Rp_vo h Cm hB (w := fun a => wv (levT ns) (mvI r s a)) (fun a b hb => Rp_lev C (mov_some h hs C.len hb).2) hn
    refine Rp_congr (fun k hk => ?_) q
    have e := sm_reidx (f := fun a => tn (dg r) (polyL (ordL r)) (pw r (ordL r) 1 ((placesL r).getD a []) ((placesL r).getD i [])) (wv (levT ns) (mvI r s a)) k) (σ := fwI r s) (τ := mvI r s) (n := (placesL r).length) (fun b hb => (fw_ok h hs hb).1) (fun b hb => (fw_ok h hs hb).2.2) (fun a ha => mv_ok h hs ha)
    refine Eq.trans e.symm ?_
    show _ = tn (dg r) (polyL (ordL r)) _ (fun k => sm (placesL r).length fun b => tn (dg r) (polyL (ordL r)) (pw r (ordL r) 1 ((placesL r).getD b []) ((placesL r).getD i [])) (wv (levT ns) b) k) k
    rw [tn_sm]
    refine sm_congr fun b hb => ?_
    have f := fw_ok h hs hb
    rw [tn_tn _ _ _ _ _ _ T.d1]
    show tn (dg r) (polyL (ordL r)) (pw r (ordL r) 1 ((placesL r).getD (fwI r s b) []) ((placesL r).getD i [])) (wv (levT ns) (mvI r s (fwI r s b))) k = _
    rw [f.2.2, f.2.1]
    exact tn_eqv (T.per k hk) (pw_sum h (at_pl hb).2 hs)
  · obtain ⟨_, a, ha, rfl⟩ := turned_some (rowC_vo h C).len hn
    exact Rp_turn h ((rowC_vo h C).num a (List.mem_of_getElem? ha)) (Rp_vo h C hB (fun a b hb => Rp_lev C hb) ha) _
end K09

/-! Exchange by -1 of turned vectors. -/
namespace K09
open PySem PySem.Spec PyProof.Rows L2
/-- the index of the opposite power -/
def ng (e : Int) (m : Nat) : Nat := (((m : Int) * -1) % e).toNat
/-- exchange by -1 of a vector -/
def exv (e : Int) (w : Nat → Int) (j : Nat) : Int := sm ((polyL e).length - 1) (fun m => w m * Tz ((polyL e).length - 1) (polyL e) j (ng e m))
theorem ng_mod {e : Int} (he : 0 < e) (a : Nat) : ng e (a % e.toNat) = ng e a := by
  unfold ng
  have : (((a % e.toNat : Nat) : Int) * -1) % e = ((a : Int) * -1) % e := by
    rw [Int.natCast_emod, Int.toNat_of_nonneg (by omega), Int.mul_emod, Int.emod_emod, ← Int.mul_emod]
  rw [this]
theorem ex_T {r : List Int} (h : r ∈ RR) (a : Nat) {j : Nat} (hj : j < dg r) : exv (ordL r) (fun k => Tz (dg r) (polyL (ordL r)) k a) j = Tz (dg r) (polyL (ordL r)) j (ng (ordL r) a) := by
  have he := ord_er r h
  obtain ⟨t, ht, et⟩ := er_tab _ he
  have ok := tabs_ok t ht
  have eb := er_bd _ he
  have e0 : 0 < ordL r := by omega
  have ep : polyL (ordL r) = t.2.1 := by rw [← et]; exact ok.1
  have T := tabs_of h
  have md : ∀ m : Nat, ng (ordL r) m < (ordL r).toNat := fun m => by
    have := Int.emod_nonneg ((m : Int) * -1) (show ordL r ≠ 0 by omega)
    have := Int.emod_lt_of_pos ((m : Int) * -1) e0
    unfold ng
    omega
  have la : a % (ordL r).toNat < (ordL r).toNat := Nat.mod_lt _ (by omega)
  have q := ex_ok t ht
  unfold exB at q
  rw [List.all_eq_true] at q
  have q1 := q (a % (ordL r).toNat) (List.mem_range.mpr (by rw [et]; exact la))
  rw [List.all_eq_true] at q1
  have q2 := of_decide_eq_true (q1 j (List.mem_range.mpr (by rw [← ep]; exact hj)))
  rw [et] at q2
  have tc : ∀ {i b : Nat}, i < (polyL (ordL r)).length - 1 → b < (ordL r).toNat → (t.2.2.getD i []).getD b 0 = Tz ((polyL (ordL r)).length - 1) (polyL (ordL r)) i b := by
    intro i b hi hb
    rw [ep] at hi ⊢
    exact tab_col ht hi (by rw [et]; omega)
  have q3 : (t.2.2.getD j []).getD (ng (ordL r) (a % (ordL r).toNat)) 0 = Tz (dg r) (polyL (ordL r)) j (ng (ordL r) a) := by
    rw [tc hj (md _), ng_mod e0]
  rw [← q3]
  refine Eq.trans ?_ q2
  rw [← ep]
  refine sm_congr fun m hm => ?_
  show Tz _ _ m a * Tz _ _ j (ng (ordL r) m) = _ * (t.2.2.getD j []).getD (ng (ordL r) m) 0
  rw [tc hm la, tc hj (md _), T_eqv (T.per m hm) (show a % (ordL r).toNat = (a % (ordL r).toNat) % (ordL r).toNat by rw [Nat.mod_mod])]
end K09

namespace K09
open PySem PySem.Spec PyProof.Rows L2
theorem ng_add {e : Int} (he : 0 < e) (p k : Nat) : ng e (p + k) % e.toNat = (ng e p + ng e k) % e.toNat := by
  have c := fun m : Nat => Int.emod_nonneg ((m : Int) * -1) (show e ≠ 0 by omega)
  unfold ng
  apply Int.ofNat_inj.mp
  have c2 := c (p + k)
  rw [Int.natCast_emod, Int.natCast_emod, Int.natCast_add (_ : Int).toNat, Int.toNat_of_nonneg c2, Int.toNat_of_nonneg (c p), Int.toNat_of_nonneg (c k), Int.toNat_of_nonneg (show 0 ≤ e by omega), Int.emod_emod, Int.emod_add_emod, Int.add_emod_emod, Int.natCast_add, Int.add_mul]
theorem ex_tn {r : List Int} (h : r ∈ RR) (p : Nat) (w : Nat → Int) {j : Nat} (hj : j < dg r) : exv (ordL r) (tn (dg r) (polyL (ordL r)) p w) j = tn (dg r) (polyL (ordL r)) (ng (ordL r) p) (exv (ordL r) w) j := by
  have T := tabs_of h
  have eb := er_bd _ (ord_er r h)
  have e1 : exv (ordL r) (tn (dg r) (polyL (ordL r)) p w) j = sm (dg r) (fun k => w k * Tz (dg r) (polyL (ordL r)) j (ng (ordL r) (p + k))) := by
    have a : exv (ordL r) (tn (dg r) (polyL (ordL r)) p w) j = sm (dg r) (fun m => sm (dg r) (fun k => w k * (Tz (dg r) (polyL (ordL r)) m (p + k) * Tz (dg r) (polyL (ordL r)) j (ng (ordL r) m)))) := by
      refine sm_congr fun m _ => ?_
      show sm (dg r) (fun k => w k * Tz (dg r) (polyL (ordL r)) m (p + k)) * _ = _
      rw [← sm_mulR]
      exact sm_congr fun k _ => Int.mul_assoc _ _ _
    rw [a, sm_swap]
    refine sm_congr fun k _ => ?_
    rw [sm_mul]
    exact congrArg (w k * ·) (ex_T h (p + k) hj)
  have e2 : tn (dg r) (polyL (ordL r)) (ng (ordL r) p) (exv (ordL r) w) j = sm (dg r) (fun k => w k * Tz (dg r) (polyL (ordL r)) j (ng (ordL r) p + ng (ordL r) k)) := by
    have a : tn (dg r) (polyL (ordL r)) (ng (ordL r) p) (exv (ordL r) w) j = sm (dg r) (fun m => tn (dg r) (polyL (ordL r)) (ng (ordL r) p) (fun k => w m * Tz (dg r) (polyL (ordL r)) k (ng (ordL r) m)) j) := tn_sm _ _ _ _ _ _
    rw [a]
    refine sm_congr fun m _ => ?_
    rw [tn_mul, tn_T _ _ _ _ T.d1]
  rw [e1, e2]
  exact sm_congr fun k _ => by rw [T_eqv (T.per j hj) (ng_add (by omega) p k)]
end K09

/-! The voices of a turned row. -/
namespace K09
open PySem PySem.Spec PyProof.Rows L2
theorem tr_some {r : List Int} {ns : List Num} {i : Nat} {n : Num} (hn : (trL r ns)[i]? = some n) : ∃ m, ns[i]? = some m ∧ n = exL (ordL r) m (-1) := by
  unfold trL at hn
  rw [List.getElem?_map] at hn
  obtain ⟨m, hm, e⟩ := Option.map_eq_some_iff.mp hn
  exact ⟨m, hm, e.symm⟩
theorem Rp_ex {r : List Int} (h : r ∈ RR) {a : Num} {M : Int} {w : Nat → Int} (ha : NumC (dg r) a) (ra : Rp (dg r) a M w) : Rp (dg r) (exL (ordL r) a (-1)) M (exv (ordL r) w) := by
  have eb := er_bd _ (ord_er r h)
  have hp := poly_len h
  intro j hj
  show a.2 * exv (ordL r) w j = M * (exT (ordL r) (-1) a.1).getD j 0
  rw [exT_co (by omega) (by omega) hj, ha.len]
  unfold exv
  rw [← sm_mul, ← sm_mul]
  refine sm_congr fun m hm => ?_
  rw [← Int.mul_assoc, ← Int.mul_assoc, ra m hm]
  rfl
theorem exv_congr {e : Int} {v w : Nat → Int} (h : ∀ k, k < (polyL e).length - 1 → v k = w k) (j : Nat) : exv e v j = exv e w j := sm_congr fun m hm => by rw [h m hm]
theorem ng_pw : ∀ r ∈ RR, ∀ b ∈ List.range (placesL r).length, ∀ i ∈ List.range (placesL r).length, ng (ordL r) (pw r (ordL r) 1 ((placesL r).getD b []) ((placesL r).getD (opI r i) [])) = pw r (ordL r) 1 ((placesL r).getD b []) ((placesL r).getD i []) := by decide +kernel
theorem vo_tr {r : List Int} (h : r ∈ RR) {ns : List Num} (C : RowC r ns) : voL r (trL r ns) = trL r (mirL r (voL r ns)) := by
  have hB : 1 ≤ levB ns := levB_pos fun n hn => (C.num n hn).pos
  have Ct := rowC_tr h C
  have Cv := rowC_vo h C
  have Cm : RowC r (mirL r (voL r ns)) := rowC_laid Cv (mirP_len r) (mir_all r h)
  refine rows_eq (rowC_vo h Ct) (rowC_tr h Cm) hB (w := fun i => exv (ordL r) (Tq r 1 (pl r (opI r i)) (wv (levT ns)))) (fun i n hn => ?_) (fun i n hn => ?_)
  · have hi := (voL_get hn).1
    have q := Rp_vo h Ct hB (w := fun a => exv (ordL r) (wv (levT ns) a)) (fun a b hb => by
      obtain ⟨m, hm, rfl⟩ := tr_some hb
      exact Rp_ex h (C.num m (List.mem_of_getElem? hm)) (Rp_lev C hm)) hn
    refine Rp_congr (fun k hk => ?_) q
    have e : exv (ordL r) (Tq r 1 (pl r (opI r i)) (wv (levT ns))) k = sm (placesL r).length (fun b => exv (ordL r) (tn (dg r) (polyL (ordL r)) (pw r (ordL r) 1 ((placesL r).getD b []) ((placesL r).getD (opI r i) [])) (wv (levT ns) b)) k) := by
      unfold exv Tq TSf
      rw [← sm_swap]
      exact sm_congr fun m _ => by rw [← sm_mulR]
    rw [e]
    refine sm_congr fun b hb => ?_
    rw [ex_tn h _ _ hk, ng_pw r h b (List.mem_range.mpr hb) i (List.mem_range.mpr hi)]
  · obtain ⟨m, hm, rfl⟩ := tr_some hn
    obtain ⟨_, hm2⟩ := mir_some h Cv.len hm
    exact Rp_ex h (Cm.num m (List.mem_of_getElem? hm)) (Rp_vo h C hB (fun a b hb => Rp_lev C hb) hm2)
end K09

/-! loudness, lifted. -/
namespace K09
open PySem PySem.Spec PyProof.Rows L2
def loudL (e : Int) (n : Num) : Num := prodL e n (exL e n (-1))
def liftL (e o : Int) (n : Num) : Num := lowL (exT o (o / e) n.1) n.2
section
variable {P : Program} {w : World} {K : PySem.W.Frag} {mg : Str → Option Value} {base : Heap} {f f1 f2 f3 f4 f5 C fI fM : Addr} {fd fd1 fd2 fd3 fd4 fd5 fdI : FuncData}
def spLoud (K : PySem.W.Frag) : Sp := fun vs H Q _ => ∃ (e : Int) (v : V) (n : Num), vs = [.int e, v] ∧ e ∈ ER ∧ NumAt K H v n ∧ NumOk e n ∧ (∀ t ∈ n.1, -(2 ^ 64) < t ∧ t < 2 ^ 64) ∧ ∀ v' H', Same H H' → NumAt K H' v' (loudL e n) → Q v' H'
abbrev loN : List Str := ["order", "number", "tops", "bottom"]
theorem scLoud : FnScope loN ["order", "number"] (defScope sLoud) := ⟨rfl, rfl, rfl, by decide +kernel, rfl, by decide +kernel, by decide +kernel⟩
theorem ok_loud (F : FnP K "loudness" sLoud f fd) (F1 : FnP K "check_number" sChkN f1 fd1) (g1 : mg "check_number" = some (.ref f1)) (G1 : FnOk P w K mg base CX0 5 f1 fd1 ["order", "number"] (spChkN K)) (F2 : FnP K "_product" sProd f2 fd2) (g2 : mg "_product" = some (.ref f2)) (G2 : FnOk P w K mg base CX0 4 f2 fd2 ["order", "one", "other"] (spProd K))
    (F3 : FnP K "exchanged_tops" sExT f3 fd3) (g3 : mg "exchanged_tops" = some (.ref f3)) (G3 : FnOk P w K mg base CX0 3 f3 fd3 ["tops", "order", "j", "polynomial"] (spExT K)) (F4 : FnP K "polynomial_of" sPoly f4 fd4) (g4 : mg "polynomial_of" = some (.ref f4)) (G4 : FnOk P w K mg base CX0 2 f4 fd4 ["order"] (spPoly K)) :
    FnOk P w K mg base CX0 6 f fd ["order", "number"] (spLoud K) := by
  have b1 : Binds K fd1 ["order", "number"] [] := F1.bindsN fun _ _ _ _ _ _ us hl => match us, hl with | [_, _], _ => rfl
  have b2 : Binds K fd2 ["order", "one", "other"] [] := F2.bindsN fun _ _ _ _ _ _ us hl => match us, hl with | [_, _, _], _ => rfl
  have b3 : Binds K fd3 ["tops", "order", "j", "polynomial"] [] := F3.bindsN fun _ _ _ _ _ _ us hl => match us, hl with | [_, _, _, _], _ => rfl
  have b4 : Binds K fd4 ["order"] [] := F4.bindsN fun _ _ _ _ _ _ us hl => match us, hl with | [_], _ => rfl
  refine F.ok scLoud (fun vs H Q E h => ?_) (fun cdv A outer s H vs Q E hr h => ?_)
  · obtain ⟨e, v, n, rfl, _⟩ := h
    rfl
  · obtain ⟨e, v, n, rfl, he, hv, ok, bd, k⟩ := h
    refine ⟨_, PSs.nox (pss_cons (ps_expr (pe_call G1 hr rfl g1 F1.kp b1 .nil pass0 (pa_cons (pv 0) (pa_cons (pv 1) pa_nil))))
      (pss_cons (ps_asg (pv 1) (pg_tup rfl (pgs_cons (pg_name (i := 2) scLoud.nd rfl (Or.inl rfl)) (pgs_cons (pg_name (i := 3) scLoud.nd rfl (Or.inl rfl)) pgs_nil))))
      (pss_one (ps_ret (pe_call G2 (hr.mono (by decide)) rfl g2 F2.kp b2 .nil pass0 (pa_cons (pv 0) (pa_cons (pv 1) (pa_cons (pe_tup (pa_cons (pe_call G3 (hr.mono (by decide)) rfl g3 F3.kp b3 .nil pass0 (pa_cons (pv 2) (pa_cons (pv 0) (pa_cons (pe_un un_neg pe_int) (pa_cons (pe_call G4 (hr.mono (by decide)) rfl g4 F4.kp b4 .nil pass0 (pa_cons (pv 0) pa_nil)) pa_nil))))) (pa_cons (pv 3) pa_nil))) pa_nil)))))))), ?_⟩
    have eb := er_bd e he
    have eu := er_units e he
    have ol := ok.len
    have ep := er_poly e he
    refine ⟨_, rfl, _, rfl, e, _, n, rfl, by omega, by omega, hv, ok, fun H1 s1 => ?_⟩
    obtain ⟨p, t, rfl, hp, ht⟩ := s1.num hv
    refine ⟨_, rfl, p, _, rfl, hp, rfl, _, _, rfl, _, _, rfl, rfl, ?_⟩
    refine ⟨_, rfl, _, rfl, _, rfl, _, rfl, _, rfl, _, rfl, e, rfl, he, fun po H2 s2 npo h2 => ?_⟩
    refine ⟨t, po, n.1, e, -1, rfl, s2.tup ht, SqT.of h2, he, by decide, by decide, by omega, fun t2 H3 s3 nt2 h3 => ?_⟩
    refine ⟨_, rfl, by show 2 ≤ sizeLine; decide, fun q hq => ?_⟩
    have s4 : Same H3 (upd H3 q (.tup [.ref t2, .int n.2])) := same_upd hq
    have t4 := (s2.trans s3).trans s4
    have lx : (exT e (-1) n.1).length = (unitsL e).length := by
      unfold exT
      rw [redL_len (by omega), er_deg e he]
    refine ⟨e, _, _, n, exL e n (-1), rfl, he, ⟨p, t, rfl, t4.tup hp, t4.tup ht⟩, ⟨q, t2, rfl, SqT.of upd_same, s4.tup (SqT.of h3)⟩, ol, lx, ok.pos, ok.big, ok.pos, ok.big, .inl bd, fun v' H5 s5 hv' => ?_⟩
    exact k v' H5 ((s1.trans t4).trans s5) hv'
def spLift (K : PySem.W.Frag) : Sp := fun vs H Q _ => ∃ (e o : Int) (v : V) (n : Num), vs = [.int e, v, .int o] ∧ e ∈ ER ∧ o ∈ ER ∧ o % e = 0 ∧ NumAt K H v n ∧ NumOk e n ∧ ∀ v' H', Same H H' → NumAt K H' v' (liftL e o n) → Q v' H'
abbrev liN : List Str := ["order", "number", "other", "tops", "bottom"]
theorem scLift : FnScope liN ["order", "number", "other"] (defScope sLifted) := ⟨rfl, rfl, rfl, by decide +kernel, rfl, by decide +kernel, by decide +kernel⟩
theorem ok_lift (F : FnP K "lifted" sLifted f fd) (F1 : FnP K "check_number" sChkN f1 fd1) (g1 : mg "check_number" = some (.ref f1)) (G1 : FnOk P w K mg base CX0 5 f1 fd1 ["order", "number"] (spChkN K)) (F2 : FnP K "is_order" sIsOrd f2 fd2) (g2 : mg "is_order" = some (.ref f2)) (G2 : FnOk P w K mg base CX0 2 f2 fd2 ["thing"] (spOrd (.bl true)))
    (F3 : FnP K "spread" sSpread f3 fd3) (g3 : mg "spread" = some (.ref f3)) (G3 : FnOk P w K mg base CX0 1 f3 fd3 ["tops", "many", "step"] (spSpread K)) (F4 : FnP K "polynomial_of" sPoly f4 fd4) (g4 : mg "polynomial_of" = some (.ref f4)) (G4 : FnOk P w K mg base CX0 2 f4 fd4 ["order"] (spPoly K))
    (F5 : FnP K "reduced" sRed f5 fd5) (g5 : mg "reduced" = some (.ref f5)) (G5 : FnOk P w K mg base CX0 2 f5 fd5 ["items", "polynomial"] (spRed K)) (F6 : FnP K "lowered" sLow fI fdI) (g6 : mg "lowered" = some (.ref fI)) (G6 : FnOk P w K mg base CX0 1 fI fdI ["tops", "bottom"] (spLow K)) :
    FnOk P w K mg base CX0 6 f fd ["order", "number", "other"] (spLift K) := by
  have b1 : Binds K fd1 ["order", "number"] [] := F1.bindsN fun _ _ _ _ _ _ us hl => match us, hl with | [_, _], _ => rfl
  have b2 : Binds K fd2 ["thing"] [] := F2.bindsN fun _ _ _ _ _ _ us hl => match us, hl with | [_], _ => rfl
  have b3 : Binds K fd3 ["tops", "many", "step"] [] := F3.bindsN fun _ _ _ _ _ _ us hl => match us, hl with | [_, _, _], _ => rfl
  have b4 : Binds K fd4 ["order"] [] := F4.bindsN fun _ _ _ _ _ _ us hl => match us, hl with | [_], _ => rfl
  have b5 : Binds K fd5 ["items", "polynomial"] [] := F5.bindsN fun _ _ _ _ _ _ us hl => match us, hl with | [_, _], _ => rfl
  have b6 : Binds K fdI ["tops", "bottom"] [] := F6.bindsN fun _ _ _ _ _ _ us hl => match us, hl with | [_, _], _ => rfl
  refine F.ok scLift (fun vs H Q E h => ?_) (fun cdv A outer s H vs Q E hr h => ?_)
  · obtain ⟨e, o, v, n, rfl, _⟩ := h
    rfl
  · obtain ⟨e, o, v, n, rfl, he, ho, hd, hv, ok, k⟩ := h
    refine ⟨_, PSs.nox (pss_cons (ps_expr (pe_call G1 hr rfl g1 F1.kp b1 .nil pass0 (pa_cons (pv 0) (pa_cons (pv 1) pa_nil))))
      (pss_cons (ps_if (PW.pt (pw_or (pt_not (pt_val (pe_call G2 (hr.mono (by decide)) rfl g2 F2.kp b2 .nil pass0 (pa_cons (pv 2) pa_nil)))) (pw_or1 (pt_cmpR op_ne (pe_op op_mod (pv 2) (pv 0)) pe_int (nomark _))))) (pss_one ps_never) pss_nil)
      (pss_cons (ps_asg (pv 1) (pg_tup rfl (pgs_cons (pg_name (i := 3) scLift.nd rfl (Or.inl rfl)) (pgs_cons (pg_name (i := 4) scLift.nd rfl (Or.inl rfl)) pgs_nil))))
      (pss_one (ps_ret (pe_call G6 (hr.mono (by decide)) rfl g6 F6.kp b6 .nil pass0 (pa_cons (pe_call G5 (hr.mono (by decide)) rfl g5 F5.kp b5 .nil pass0 (pa_cons (pe_call G3 (hr.mono (by decide)) rfl g3 F3.kp b3 .nil pass0 (pa_cons (pv 3) (pa_cons (pv 2) (pa_cons (pe_op op_fdiv (pv 2) (pv 0)) pa_nil)))) (pa_cons (pe_call G4 (hr.mono (by decide)) rfl g4 F4.kp b4 .nil pass0 (pa_cons (pv 2) pa_nil)) pa_nil))) (pa_cons (pv 4) pa_nil)))))))), ?_⟩
    have eb := er_bd e he
    have ob := er_bd o ho
    have op := er_poly o ho
    have eu := er_units e he
    have ol := ok.len
    have opos := ok.pos
    have obig := ok.big
    refine ⟨_, rfl, _, rfl, e, _, n, rfl, by omega, by omega, hv, ok, fun H1 s1 => ?_⟩
    refine ⟨_, rfl, o, rfl, by omega, by omega, _, rfl, iteF ?_⟩
    refine ⟨_, rfl, _, rfl, _, _, rfl, rfl, by omega, ?_⟩
    dsimp only
    rw [hd]
    refine ⟨rfl, _, rfl, iteF ?_⟩
    obtain ⟨p, t, rfl, hp, ht⟩ := s1.num hv
    refine ⟨_, rfl, p, _, rfl, hp, rfl, _, _, rfl, _, _, rfl, rfl, ?_⟩
    have jb : -1000 ≤ o / e ∧ o / e ≤ 1000 := by
      have := Int.ediv_nonneg (a := o) (b := e) (by omega) (by omega)
      have := Int.ediv_le_self e (show 0 ≤ o by omega)
      omega
    refine ⟨_, rfl, _, rfl, _, rfl, _, rfl, _, _, rfl, rfl, ⟨by omega, by omega⟩, ?_⟩
    refine ⟨t, n.1, o, o / e, rfl, ht, by omega, by omega, jb.1, jb.2, by omega, fun ts H2 s2 nts hts => ?_⟩
    refine ⟨_, rfl, o, rfl, ho, fun po H3 s3 npo hpo => ?_⟩
    have al := sprGo_len o (o / e) n.1 n.1.length
    refine ⟨ts, po, sprGo o (o / e) n.1 n.1.length, polyL o, rfl, SqL.of (s3 _ _ hts), SqT.of hpo, op.1, by omega, by rw [al]; omega, op.2.2, fun tr H4 s4 ntr htr => ?_⟩
    refine ⟨_, rfl, tr, exT o (o / e) n.1, n.2, rfl, .inr (SqT.of htr), by omega, by omega, ?_, fun v' H5 s5 hv' => ?_⟩
    · rw [exT_len (by omega)]
      omega
    · exact k v' H5 ((s1.trans (s2.trans s3)).trans (s4.trans s5)) hv'
end
end K09

/-! The loudnesses of all voices together. -/
namespace K09
open PySem PySem.Spec PyProof.Rows L2
/-- products of vectors -/
def mw (r : List Int) (u v : Nat → Int) (j : Nat) : Int := sm (dg r) (fun i => u i * tn (dg r) (polyL (ordL r)) i v j)
theorem mw_congr {r : List Int} {u u' v v' : Nat → Int} (h1 : ∀ k, k < dg r → u k = u' k) (h2 : ∀ k, k < dg r → v k = v' k) (j : Nat) : mw r u v j = mw r u' v' j := sm_congr fun i hi => by rw [h1 i hi, tn_congr h2]
theorem mw_mul {r : List Int} (c d : Int) (u v : Nat → Int) (j : Nat) : mw r (fun k => c * u k) (fun k => d * v k) j = c * d * mw r u v j := by
  unfold mw
  rw [← sm_mul]
  refine sm_congr fun i _ => ?_
  rw [tn_mul]
  show c * u i * (d * _) = c * d * (u i * _)
  ac_rfl
theorem levB_one {r : List Int} {ns : List Num} (C : RowC r ns) : 1 ≤ levB ns := levB_pos fun n hn => (C.num n hn).pos
theorem exv_sm {e : Int} (n : Nat) (f : Nat → Nat → Int) (j : Nat) : exv e (fun k => sm n (fun i => f i k)) j = sm n (fun i => exv e (f i) j) := by
  unfold exv
  rw [← sm_swap]
  exact sm_congr fun m _ => by rw [← sm_mulR]
theorem exv_mul {e : Int} (c : Int) (w : Nat → Int) (j : Nat) : exv e (fun k => c * w k) j = c * exv e w j := by
  unfold exv
  rw [← sm_mul]
  exact sm_congr fun m _ => Int.mul_assoc _ _ _
/-- a sum of turns by the items of a turn -/
theorem tn_sum {r : List Int} (h : r ∈ RR) (p : Nat) (v : Nat → Int) (j : Nat) : sm (dg r) (fun k => Tz (dg r) (polyL (ordL r)) k p * tn (dg r) (polyL (ordL r)) k v j) = tn (dg r) (polyL (ordL r)) p v j := by
  have T := tabs_of h
  have a : sm (dg r) (fun k => Tz (dg r) (polyL (ordL r)) k p * tn (dg r) (polyL (ordL r)) k v j) = sm (dg r) (fun k => sm (dg r) (fun l => v l * (Tz (dg r) (polyL (ordL r)) k p * Tz (dg r) (polyL (ordL r)) j (l + k)))) := by
    refine sm_congr fun k _ => ?_
    unfold tn
    rw [← sm_mul]
    refine sm_congr fun l _ => ?_
    rw [Nat.add_comm k l]
    ac_rfl
  rw [a, sm_swap]
  refine sm_congr fun l _ => ?_
  rw [sm_mul]
  have q := tn_T (dg r) (polyL (ordL r)) l j T.d1 p
  unfold tn at q
  rw [q, Nat.add_comm l p]
theorem ex_mw {r : List Int} (h : r ∈ RR) (u v : Nat → Int) {j : Nat} (hj : j < dg r) : exv (ordL r) (mw r u v) j = mw r (exv (ordL r) u) (exv (ordL r) v) j := by
  have e1 : exv (ordL r) (mw r u v) j = sm (dg r) (fun i => u i * tn (dg r) (polyL (ordL r)) (ng (ordL r) i) (exv (ordL r) v) j) := by
    have a : exv (ordL r) (mw r u v) j = sm (dg r) (fun i => exv (ordL r) (fun k => u i * tn (dg r) (polyL (ordL r)) i v k) j) := exv_sm _ _ _
    rw [a]
    refine sm_congr fun i _ => ?_
    rw [exv_mul, ex_tn h _ _ hj]
  have e2 : mw r (exv (ordL r) u) (exv (ordL r) v) j = sm (dg r) (fun i => u i * tn (dg r) (polyL (ordL r)) (ng (ordL r) i) (exv (ordL r) v) j) := by
    have a : mw r (exv (ordL r) u) (exv (ordL r) v) j = sm (dg r) (fun k => sm (dg r) (fun i => u i * (Tz (dg r) (polyL (ordL r)) k (ng (ordL r) i) * tn (dg r) (polyL (ordL r)) k (exv (ordL r) v) j))) := by
      refine sm_congr fun k _ => ?_
      show sm (dg r) (fun i => u i * Tz (dg r) (polyL (ordL r)) k (ng (ordL r) i)) * _ = _
      rw [← sm_mulR]
      exact sm_congr fun i _ => Int.mul_assoc _ _ _
    rw [a, sm_swap]
    refine sm_congr fun i _ => ?_
    rw [sm_mul, tn_sum h]
  rw [e1, e2]

theorem mw_add_sm {r : List Int} (n : Nat) (f : Nat → Nat → Int) (v : Nat → Int) (j : Nat) : mw r (fun k => sm n (fun i => f i k)) v j = sm n (fun i => mw r (f i) v j) := by
  unfold mw
  rw [← sm_swap]
  exact sm_congr fun k _ => by rw [← sm_mulR]
theorem mw_sm_r {r : List Int} (n : Nat) (u : Nat → Int) (f : Nat → Nat → Int) (j : Nat) : mw r u (fun k => sm n (fun i => f i k)) j = sm n (fun i => mw r u (f i) j) := by
  unfold mw
  rw [← sm_swap]
  exact sm_congr fun k _ => by rw [tn_sm, sm_mul]
theorem mw_tn {r : List Int} (h : r ∈ RR) (p q : Nat) (u v : Nat → Int) (j : Nat) : mw r (tn (dg r) (polyL (ordL r)) p u) (tn (dg r) (polyL (ordL r)) q v) j = tn (dg r) (polyL (ordL r)) p (tn (dg r) (polyL (ordL r)) q (mw r u v)) j := by
  have d1 := (tabs_of h).d1
  have e1 : mw r (tn (dg r) (polyL (ordL r)) p u) (tn (dg r) (polyL (ordL r)) q v) j = sm (dg r) (fun k => u k * tn (dg r) (polyL (ordL r)) (p + k) (tn (dg r) (polyL (ordL r)) q v) j) := by
    have a : mw r (tn (dg r) (polyL (ordL r)) p u) (tn (dg r) (polyL (ordL r)) q v) j = sm (dg r) (fun i => sm (dg r) (fun k => u k * (Tz (dg r) (polyL (ordL r)) i (p + k) * tn (dg r) (polyL (ordL r)) i (tn (dg r) (polyL (ordL r)) q v) j))) := by
      refine sm_congr fun i _ => ?_
      show sm (dg r) (fun k => u k * Tz (dg r) (polyL (ordL r)) i (p + k)) * _ = _
      rw [← sm_mulR]
      exact sm_congr fun k _ => Int.mul_assoc _ _ _
    rw [a, sm_swap]
    refine sm_congr fun k _ => ?_
    rw [sm_mul, tn_sum h]
  have e2 : tn (dg r) (polyL (ordL r)) p (tn (dg r) (polyL (ordL r)) q (mw r u v)) j = sm (dg r) (fun k => u k * tn (dg r) (polyL (ordL r)) (p + k) (tn (dg r) (polyL (ordL r)) q v) j) := by
    rw [tn_tn _ _ _ _ _ _ d1]
    have a : tn (dg r) (polyL (ordL r)) (p + q) (mw r u v) j = sm (dg r) (fun i => tn (dg r) (polyL (ordL r)) (p + q) (fun k => u i * tn (dg r) (polyL (ordL r)) i v k) j) := tn_sm _ _ _ _ _ _
    rw [a]
    refine sm_congr fun i _ => ?_
    rw [tn_mul, tn_tn _ _ _ _ _ _ d1, tn_tn _ _ _ _ _ _ d1]
    congr 2
    omega
  rw [e1, e2]
/-- a product, by the vectors of both -/
theorem Rp_prod2 {r : List Int} (h : r ∈ RR) {a b : Num} {M N : Int} {u v : Nat → Int} (ha : NumC (dg r) a) (hb : NumC (dg r) b) (ra : Rp (dg r) a M u) (rb : Rp (dg r) b N v) : Rp (dg r) (prodL (ordL r) a b) (M * N) (mw r u v) := by
  intro j hj
  have q := Rp_prod h ha hb rb j hj
  have e : a.2 * mw r u v j = M * mv r a.1 v j := by
    have e1 : mv r a.1 v j = mw r (fun k => a.1.getD k 0) v j := rfl
    have e2 := mw_mul (r := r) a.2 1 u v j
    have e3 := mw_mul (r := r) M 1 (fun k => a.1.getD k 0) v j
    rw [Int.mul_one] at e2 e3
    rw [e1, ← e2, ← e3]
    exact mw_congr (fun k hk => ra k hk) (fun _ _ => rfl) j
  refine icancel ha.pos ?_
  have f1 : a.2 * ((prodL (ordL r) a b).2 * mw r u v j) = (prodL (ordL r) a b).2 * (a.2 * mw r u v j) := by ac_rfl
  rw [f1, e]
  have f2 : (prodL (ordL r) a b).2 * (M * mv r a.1 v j) = M * ((prodL (ordL r) a b).2 * mv r a.1 v j) := by ac_rfl
  rw [f2, q]
  ac_rfl
/-- numbers of one order, each a vector over M -/
structure Reps (r : List Int) (xs : List Num) (M : Int) (u : Nat → Nat → Int) : Prop where
  c : ∀ n ∈ xs, NumC (dg r) n
  r : ∀ (i : Nat) n, xs[i]? = some n → Rp (dg r) n M (u i)
theorem reps_tot {r : List Int} {xs : List Num} {M : Int} {u : Nat → Nat → Int} (h : Reps r xs M u) (hM : 1 ≤ M) : ∀ i, i ≤ xs.length → Rp (dg r) (totL r (xs.take i)) M (fun k => sm i (fun a => u a k))
  | 0, _ => fun k hk => by
    show (1 : Int) * 0 = M * (List.replicate (dg r) (0 : Int)).getD k 0
    rw [List.getD_eq_getElem?_getD, List.getElem?_replicate]
    simp [hk]
  | i + 1, hi => by
    have ih := reps_tot h hM i (by omega)
    obtain ⟨n, hn⟩ := get_lt (show i < xs.length by omega)
    rw [List.take_succ, hn]
    show Rp (dg r) ((xs.take i ++ [n]).foldl _ _) _ _
    rw [List.foldl_append]
    have q := Rp_sum (numC_tot h.c i) (h.c n (List.mem_of_getElem? hn)) ih (h.r i n hn)
    refine Rp_cancel (c := M) hM ?_
    refine Rp_congr (fun k hk => ?_) q
    show _ = M * (sm i (fun a => u a k) + u i k)
    rw [Int.mul_add]
theorem tot_low {r : List Int} {xs : List Num} {M : Int} {u : Nat → Nat → Int} (h : Reps r xs M u) (hM : 1 ≤ M) {i : Nat} (hi : i ≤ xs.length) : totL r (xs.take i) = lowL (vecL (dg r) (fun k => sm i (fun a => u a k))) M :=
  Rp_eq hM (numC_tot h.c i) (numC_low hM (by unfold vecL; simp)) (reps_tot h hM i hi) (Rp_of_low hM fun k hk => by rw [vecL_get hk])
theorem reps_lev {r : List Int} {ns : List Num} (C : RowC r ns) : Reps r ns (levB ns) (wv (levT ns)) := ⟨C.num, fun _ _ e => Rp_lev C e⟩
theorem reps_vo {r : List Int} (h : r ∈ RR) {ns : List Num} (C : RowC r ns) : Reps r (voL r ns) (levB ns) (fun i => Tq r 1 (pl r i) (wv (levT ns))) := ⟨(rowC_vo h C).num, fun _ _ e => Rp_vo h C (levB_one C) (fun a b hb => Rp_lev C hb) e⟩
theorem reps_loud {r : List Int} (h : r ∈ RR) {xs : List Num} {M : Int} {u : Nat → Nat → Int} (H : Reps r xs M u) : Reps r (xs.map (loudL (ordL r))) (M * M) (fun i => mw r (u i) (exv (ordL r) (u i))) := by
  refine ⟨fun n hn => ?_, fun i n hn => ?_⟩
  · obtain ⟨m, hm, rfl⟩ := List.mem_map.mp hn
    exact numC_prod h (H.c m hm) (numC_ex (ord_er r h) (H.c m hm))
  · rw [List.getElem?_map] at hn
    obtain ⟨m, hm, rfl⟩ := Option.map_eq_some_iff.mp hn
    have c := H.c m (List.mem_of_getElem? hm)
    exact Rp_prod2 h c (numC_ex (ord_er r h) c) (H.r i m hm) (Rp_ex h c (H.r i m hm))
theorem ng_cast {e : Int} (he : 0 < e) (m : Nat) : ((ng e m : Nat) : Int) = ((m : Int) * -1) % e := Int.toNat_of_nonneg (Int.emod_nonneg _ (by omega))
/-- all voices are as loud as all items, n times -/
theorem parseval {r : List Int} (h : r ∈ RR) (w : Nat → Nat → Int) {j : Nat} (hj : j < dg r) :
    sm (placesL r).length (fun l => mw r (Tq r 1 (pl r l) w) (exv (ordL r) (Tq r 1 (pl r l) w)) j) = ((placesL r).length : Nat) * sm (placesL r).length (fun x => mw r (w x) (exv (ordL r) (w x)) j) := by
  have B := tabs_of h
  have he := B.e0
  -- one voice
  have one : ∀ l, mw r (Tq r 1 (pl r l) w) (exv (ordL r) (Tq r 1 (pl r l) w)) j = sm (placesL r).length (fun x => sm (placesL r).length (fun y => tn (dg r) (polyL (ordL r)) (pw r (ordL r) 1 (pl r x) (pl r l)) (tn (dg r) (polyL (ordL r)) (ng (ordL r) (pw r (ordL r) 1 (pl r y) (pl r l))) (mw r (w x) (exv (ordL r) (w y)))) j)) := fun l => by
    have a : mw r (Tq r 1 (pl r l) w) (exv (ordL r) (Tq r 1 (pl r l) w)) j = sm (placesL r).length (fun x => mw r (tn (dg r) (polyL (ordL r)) (pw r (ordL r) 1 (pl r x) (pl r l)) (w x)) (exv (ordL r) (Tq r 1 (pl r l) w)) j) := mw_add_sm _ _ _ _
    rw [a]
    refine sm_congr fun x _ => ?_
    have b : mw r (tn (dg r) (polyL (ordL r)) (pw r (ordL r) 1 (pl r x) (pl r l)) (w x)) (exv (ordL r) (Tq r 1 (pl r l) w)) j = mw r (tn (dg r) (polyL (ordL r)) (pw r (ordL r) 1 (pl r x) (pl r l)) (w x)) (fun k => sm (placesL r).length (fun y => tn (dg r) (polyL (ordL r)) (ng (ordL r) (pw r (ordL r) 1 (pl r y) (pl r l))) (exv (ordL r) (w y)) k)) j := by
      refine mw_congr (fun _ _ => rfl) (fun k hk => ?_) j
      have c : exv (ordL r) (Tq r 1 (pl r l) w) k = sm (placesL r).length (fun y => exv (ordL r) (tn (dg r) (polyL (ordL r)) (pw r (ordL r) 1 (pl r y) (pl r l)) (w y)) k) := exv_sm _ _ _
      rw [c]
      exact sm_congr fun y _ => ex_tn h _ _ hk
    rw [b, mw_sm_r]
    exact sm_congr fun y _ => mw_tn h _ _ _ _ _
  rw [sm_congr fun l _ => one l, sm_swap, ← sm_mul]
  refine sm_congr fun x hx => ?_
  rw [sm_swap]
  have row : ∀ y, y < (placesL r).length → sm (placesL r).length (fun l => tn (dg r) (polyL (ordL r)) (pw r (ordL r) 1 (pl r x) (pl r l)) (tn (dg r) (polyL (ordL r)) (ng (ordL r) (pw r (ordL r) 1 (pl r y) (pl r l))) (mw r (w x) (exv (ordL r) (w y)))) j) = if y = x then ((placesL r).length : Nat) * mw r (w x) (exv (ordL r) (w y)) j else 0 := fun y hy => by
    obtain ⟨c, hc, pc, ec⟩ := B.dif x hx y hy
    rw [inv1 B hc (fun li hli => ?_) _ hj]
    · by_cases e : y = x
      · rw [if_pos e, if_pos (ec.mpr e.symm)]
      · rw [if_neg e, if_neg (fun z => e (ec.mp z).symm)]
    · rw [pw_cast he, ng_cast he, pw_cast he, Int.emod_add_emod, Int.add_emod_emod, pc]
      rw [← pair_difL he _ _ _ B.div]
      have z : (1 * pairL r (ordL r) (pl r y) (pl r li) % ordL r * -1) % ordL r = (-(1 * pairL r (ordL r) (pl r y) (pl r li))) % ordL r := by
        rw [Int.mul_emod, Int.emod_emod, ← Int.mul_emod]
        congr 1
        omega
      rw [← Int.add_emod_emod, z, Int.add_emod_emod]
      congr 1
      show 1 * pairL r (ordL r) (pl r x) (pl r li) + -(1 * pairL r (ordL r) (pl r y) (pl r li)) = pairL r (ordL r) (pl r x) (pl r li) - pairL r (ordL r) (pl r y) (pl r li)
      omega
  rw [sm_congr row, sm_delta (f := fun y => ((placesL r).length : Nat) * mw r (w x) (exv (ordL r) (w y)) j), if_pos hx]
end K09

/-! repr of tuples of tuples of ints. -/
namespace K09
open PySem PySem.Spec PyProof.Rows L2
/-- can be shown -/
structure OkD (dp bl : Nat) (d : PyData) : Prop where
  sh : d.showable = true
  lv : d.leavesShort 200 = true
  dp : d.depth ≤ dp
  bl : d.bulk ≤ bl
  nd : d.hasDict = false
theorem OkD.le {dp bl dp' bl' : Nat} {d : PyData} (h : OkD dp bl d) (h1 : dp ≤ dp') (h2 : bl ≤ bl') : OkD dp' bl' d := ⟨h.sh, h.lv, Nat.le_trans h.dp h1, Nat.le_trans h.bl h2, h.nd⟩
theorem okd_int {i : Int} (h : i.natAbs < 2 ^ 150) : OkD 1 0 (.int i) := by
  have hl : i.natAbs.log2 < 150 := by
    by_cases h0 : i.natAbs = 0
    · rw [h0]; decide
    · exact (Nat.log2_lt h0).mpr h
  refine ⟨?_, ?_, ?_, ?_, rfl⟩
  · simp only [PyData.showable]
    exact decide_eq_true (by omega)
  · have e := int_text_length_le (a := i) (k := 150) (by decide) hl
    have e2 : (PyData.shown (.int i)).length = (Str.ofString (toString i)).length := rfl
    have e3 : (PyData.shown (.int i)).length ≤ 200 := by rw [e2, PySem.ofString_length]; omega
    show decide ((PyData.shown (.int i)).length ≤ 200) = true
    exact decide_eq_true e3
  · simp [PyData.depth]
  · simp [PyData.bulk]
theorem okd_non : OkD 1 0 .none := ⟨rfl, rfl, by simp [PyData.depth], by simp [PyData.bulk], rfl⟩
theorem okd_all {dp bl : Nat} : ∀ {ds : List PyData}, (∀ d ∈ ds, OkD dp bl d) → PyData.showableAll ds = true ∧ PyData.leavesShortAll 200 ds = true ∧ PyData.depthAll ds ≤ dp ∧ PyData.bulkAll ds ≤ ds.length * (bl + 1) ∧ PyData.hasDictAll ds = false
  | [], _ => ⟨rfl, rfl, by simp [PyData.depthAll], by simp [PyData.bulkAll], rfl⟩
  | d :: ds, h => by
    have hd := h d List.mem_cons_self
    have ih := okd_all (ds := ds) fun x hx => h x (List.mem_cons_of_mem _ hx)
    refine ⟨?_, ?_, ?_, ?_, ?_⟩
    · simp only [PyData.showableAll, hd.sh, ih.1, Bool.and_self]
    · simp only [PyData.leavesShortAll, hd.lv, ih.2.1, Bool.and_self]
    · simp only [PyData.depthAll]
      have := hd.dp
      have := ih.2.2.1
      omega
    · simp only [PyData.bulkAll, List.length_cons]
      have := hd.bl
      have := ih.2.2.2.1
      rw [Nat.add_mul]
      omega
    · simp only [PyData.hasDictAll, hd.nd, ih.2.2.2.2, Bool.or_self]
theorem okd_tup {dp bl n : Nat} {ds : List PyData} (h : ∀ d ∈ ds, OkD dp bl d) (hn : ds.length ≤ n) : OkD (dp + 1) (n * (bl + 1)) (.tuple ds) := by
  obtain ⟨h1, h2, h3, h4, h5⟩ := okd_all h
  refine ⟨?_, ?_, ?_, ?_, ?_⟩
  · simpa only [PyData.showable] using h1
  · simpa only [PyData.leavesShort] using h2
  · simp only [PyData.depth]
    omega
  · simp only [PyData.bulk]
    exact Nat.le_trans h4 (Nat.mul_le_mul_right _ hn)
  · simpa only [PyData.hasDict] using h5
def rRepr (K : PySem.W.Frag) : List V → Hp → VK → Prop := fun xs H Q => ∃ (v : V) (d : PyData), xs = [v] ∧ (∃ a, v = .ref a) ∧ Dp K H v d ∧ OkD 40 50000 d ∧ Q (.str d.shown) H
theorem call_repr {X : Cx} (hg : X.A.guards = some []) (hu : X.A.units + 64 < cLine) : CallR X (.builtin "repr") (rRepr X.K) := by
  intro pins s σ H xs us Q I r h
  obtain ⟨v, d, rfl, ⟨a, rfl⟩, hd, hs, q⟩ := h
  obtain ⟨u, rfl, ru⟩ := vals1 r
  cases (show u = Value.ref a from ru)
  obtain ⟨as, rd⟩ := Dp.reads I d _ _ hd (rfl : RelV (.ref a) (Value.ref a))
  have hz : d.shown.length ≤ sizeLine := by
    have := PyData.shown_le_bulk 200 (by decide) d hs.lv
    have e : (200 + 2) * d.bulk ≤ 202 * 50000 := Nat.mul_le_mul (Nat.le_refl _) hs.bl
    rw [sizeLine_eq]
    omega
  refine repr_of_reads' rd hs.sh (fun z => ?_) hg (by have := hs.dp; omega) (fun _ _ e => e) (fun h' t tk hk => ?_) hz
  · rw [hs.nd] at z
    cases z
  · exact ⟨.str _, H, I.kept hk, ⟨t, rfl⟩, q⟩
/-! ### data of rows -/
abbrev intsD (ns : List Int) : PyData := .tuple (ns.map PyData.int)
abbrev rowD (ns : List Num) : PyData := .tuple (ns.map numD)
abbrev plD (ps : List (List Int)) : PyData := .tuple (ps.map intsD)
/-- no int is great -/
def Bd (ns : List Num) : Prop := ∀ n ∈ ns, (∀ t ∈ n.1, t.natAbs < 2 ^ 150) ∧ n.2.natAbs < 2 ^ 150 ∧ n.1.length ≤ 16
theorem okd_ints {xs : List Int} {n : Nat} (h : ∀ x ∈ xs, x.natAbs < 2 ^ 150) (hn : xs.length ≤ n) : OkD 2 n (intsD xs) := by
  have := okd_tup (dp := 1) (bl := 0) (n := n) (ds := xs.map PyData.int) (fun d hd => by
    obtain ⟨x, hx, rfl⟩ := List.mem_map.mp hd
    exact okd_int (h x hx)) (by rw [List.length_map]; exact hn)
  exact this.le (Nat.le_refl _) (by omega)
theorem okd_num {n : Num} (h1 : ∀ t ∈ n.1, t.natAbs < 2 ^ 150) (h2 : n.2.natAbs < 2 ^ 150) (h3 : n.1.length ≤ 16) : OkD 3 34 (numD n) := by
  have := okd_tup (dp := 2) (bl := 16) (n := 2) (ds := [.tuple (n.1.map PyData.int), .int n.2]) (fun d hd => by
    rcases List.mem_cons.mp hd with rfl | hd
    · exact okd_ints h1 h3
    · rw [List.mem_singleton.mp hd]
      exact (okd_int h2).le (by decide) (by decide)) (Nat.le_refl _)
  exact this.le (Nat.le_refl _) (by decide)
theorem okd_row {ns : List Num} (h : Bd ns) (hl : ns.length ≤ 16) : OkD 4 560 (rowD ns) := by
  have := okd_tup (dp := 3) (bl := 34) (n := 16) (ds := ns.map numD) (fun d hd => by
    obtain ⟨n, hn, rfl⟩ := List.mem_map.mp hd
    exact okd_num (h n hn).1 (h n hn).2.1 (h n hn).2.2) (by rw [List.length_map]; exact hl)
  exact this.le (Nat.le_refl _) (by decide)
theorem okd_pl {ps : List (List Int)} (h : ∀ p ∈ ps, p.length ≤ 4 ∧ ∀ x ∈ p, 0 ≤ x ∧ x < 60) (hl : ps.length ≤ 16) : OkD 4 560 (plD ps) := by
  have := okd_tup (dp := 2) (bl := 4) (n := 16) (ds := ps.map intsD) (fun d hd => by
    obtain ⟨p, hp, rfl⟩ := List.mem_map.mp hd
    refine okd_ints (fun x hx => ?_) (h p hp).1
    have := (h p hp).2 x hx
    have e : x.natAbs < 60 := by omega
    exact Nat.lt_of_lt_of_le e (by decide)) (by rw [List.length_map]; exact hl)
  exact this.le (by decide) (by decide)
theorem okd_list {ds : List PyData} (h : ∀ d ∈ ds, OkD 4 560 d) (hl : ds.length ≤ 3) : OkD 40 50000 (.tuple ds) := (okd_tup h hl).le (by decide) (by decide)
theorem row_dp {K : PySem.W.Frag} {H : Hp} {v : V} {ns : List Num} (h : RowAt K H v ns) : Dp K H v (rowD ns) := by
  obtain ⟨p, vs, rfl, hp, hl, hn⟩ := h
  refine .tup hp ?_
  have key : ∀ (vs : List V) (ns : List Num), vs.length = ns.length → (∀ (i : Nat) v n, vs[i]? = some v → ns[i]? = some n → NumAt K H v n) → DpAll K H vs (ns.map numD) := by
    intro vs
    induction vs with
    | nil =>
      intro ns hl _
      cases ns with
      | nil => exact .nil
      | cons n ns => simp at hl
    | cons v vs ih =>
      intro ns hl h
      cases ns with
      | nil => simp at hl
      | cons n ns => exact .cons (num_dp (h 0 v n rfl rfl)) (ih ns (by simpa using hl) fun i a b e1 e2 => h (i + 1) a b e1 e2)
  exact key vs ns hl hn
theorem tupI_dp {K : PySem.W.Frag} {H : Hp} {v : V} {xs : List Int} (h : TupI K H v xs) : Dp K H v (intsD xs) := by
  obtain ⟨t, rfl, q⟩ := h
  exact .tup q (dp_ints _)
end K09

/-! any(..) of a tuple of ints. -/
namespace K09
open PySem PySem.Spec PyProof.Rows L2
theorem someN_range : ∀ ns : List Int, (List.range ns.length).any (fun i => ns.getD i 0 != 0) = someN ns := fun ns => by
  rw [Bool.eq_iff_iff]
  unfold someN
  rw [List.any_eq_true, List.any_eq_true]
  constructor
  · rintro ⟨i, hi, h⟩
    have hi := List.mem_range.mp hi
    refine ⟨ns[i], List.getElem_mem hi, ?_⟩
    rw [List.getD_eq_getElem?_getD, List.getElem?_eq_getElem hi] at h
    exact h
  · rintro ⟨n, hn, h⟩
    obtain ⟨i, hi, rfl⟩ := List.getElem_of_mem hn
    refine ⟨i, List.mem_range.mpr hi, ?_⟩
    rw [List.getD_eq_getElem?_getD, List.getElem?_eq_getElem hi]
    exact h
theorem truth_ints {prog : Program} {w : World} {A : Around} {ns : List Int} {its : List Value} (r : Vals (ns.map V.int) its) : TruthOf prog w A (fun i v => its.toArray[i]? = some v) (fun i => ns.getD i 0 != 0) := fun i v s Q E hv hq => by
  have hv' : its[i]? = some v := by simpa using hv
  have hl : i < ns.length := by
    have h1 := ltL hv'
    have h2 := r.length
    rw [List.length_map] at h2
    omega
  obtain ⟨u, hu, ru⟩ := r.get (getD_of hl)
  rw [hv'] at hu
  cases hu
  obtain ⟨t, rfl⟩ := (show ∃ t, v = Value.int (ns.getD i 0) t from ru)
  exact PySem.P.truthy_int hq
section
variable {X : Cx}
def rAnyT (K : PySem.W.Frag) : List V → Hp → VK → Prop := fun vs H Q => ∃ (a : Addr) (ns : List Int), vs = [V.ref a] ∧ SqT K H a (ns.map V.int) ∧ Q (.bl (someN ns)) H
theorem cr_anyT (hc : X.calm = true) : CallR X (.builtin "any") (rAnyT X.K) := by
  intro pins s σ H vs us Q I r h
  obtain ⟨a, ns, rfl, hs, q⟩ := h
  obtain ⟨its, rv, p, _⟩ := I.tuple hs
  rw [Vals.ref1 r]
  have hlt : a < s.heap.objs.size := by
    obtain ⟨_, e, _⟩ := id p
    exact Heap.lt_size e
  refine call_any_walk (wpAny_pyIter_tuple p ?_)
  refine ⟨s.heap.objs.size, _, _, _, _, _, _, rfl, Walks.tuple (A := X.A.in1) (I.ok.hd hc) s.heap.objs.size a (Nat.ne_of_lt hlt) its.toArray, ⟨⟨_, Heap.get?_push_size _ rfl, rfl, rfl⟩, p.push _⟩, truth_ints rv, fun h' tk hk => ?_⟩
  refine ⟨.bl _, H, I.kept fun b o eo => hk b o (fun hm => ?_) (Heap.get?_push_of_some _ eo), ?_, q⟩
  · have e1 := List.mem_singleton.mp hm
    rw [e1] at eo
    exact Nat.lt_irrefl _ (Heap.lt_size eo)
  · show Value.bool _ = Value.bool _
    have hl := rv.length
    rw [List.length_map] at hl
    rw [← someN_range, List.size_toArray, hl]
end
end K09

/-! plus; voice; row_back. -/
namespace K09
open PySem PySem.Spec PyProof.Rows L2
section
variable {P : Program} {w : World} {K : PySem.W.Frag} {mg : Str → Option Value} {base : Heap} {f f1 f2 f3 f4 f5 C fI fM : Addr} {fd fd1 fd2 fd3 fd4 fd5 fdI : FuncData}
def spSumN (K : PySem.W.Frag) : Sp := fun vs H Q _ => ∃ (v u : V) (a b : Num) (sg : Int), vs = [v, u, .int sg] ∧ NumAt K H v a ∧ NumAt K H u b ∧ -1 ≤ sg ∧ sg ≤ 1 ∧ a.1.length = b.1.length ∧ a.1.length ≤ 1000 ∧ 1 ≤ a.2 ∧ a.2 ≤ 1000 ∧ 1 ≤ b.2 ∧ b.2 ≤ 1000 ∧ ∀ v' H', Same H H' → NumAt K H' v' (sumN a b sg) → Q v' H'
abbrev suN : List Str := ["one", "other", "sign", "ones", "bottom", "others", "other_bottom", "tops", "k"]
theorem scSumN : FnScope suN ["one", "other", "sign"] (defScope sSumN) := ⟨rfl, rfl, rfl, by decide +kernel, rfl, by decide +kernel, by decide +kernel⟩
theorem ok_sumN (F : FnP K "_sum" sSumN f fd) (B : Bl mg) (F1 : FnP K "lowered" sLow f1 fd1) (g1 : mg "lowered" = some (.ref f1)) (G1 : FnOk P w K mg base CX0 1 f1 fd1 ["tops", "bottom"] (spLow K)) : FnOk P w K mg base CX0 2 f fd ["one", "other", "sign"] (spSumN K) := by
  have b1 : Binds K fd1 ["tops", "bottom"] [] := F1.bindsN fun _ _ _ _ _ _ us hl => match us, hl with | [_, _], _ => rfl
  refine F.ok scSumN (fun vs H Q E h => ?_) (fun cdv A outer s H vs Q E hr h => ?_)
  · obtain ⟨v, u, a, b, sg, rfl, _⟩ := h
    rfl
  · obtain ⟨v, u, a, b, sg, rfl, hv, hu, g1', g2', hl, hl2, a1, a2, c1, c2, k⟩ := h
    refine ⟨_, PSs.nox (pss_cons (ps_asg (pv 0) (pg_tup rfl (pgs_cons (pg_name (i := 3) scSumN.nd rfl (Or.inr rfl)) (pgs_cons (pg_name (i := 4) scSumN.nd rfl (Or.inr rfl)) pgs_nil))))
      (pss_cons (ps_asg (pv 1) (pg_tup rfl (pgs_cons (pg_name (i := 5) scSumN.nd rfl (Or.inr rfl)) (pgs_cons (pg_name (i := 6) scSumN.nd rfl (Or.inr rfl)) pgs_nil))))
      (pss_cons (ps_setLc (i := 7) (own := [("k", 8)]) (g := gName 8) (tt := tYes) (te := tOp (rI0 fun i j => .int (i + j)) (tOp rMul (tOp (rIxT K) (tVar 3) (tVar 8)) (tVar 6)) (tOp rMul (tOp rMul (tVar 2) (tOp (rIxT K) (tVar 5) (tVar 8))) (tVar 4))) rfl scSumN.nd rfl rfl (sw_true rfl rfl rfl (by decide +kernel)) (pi_range1 rfl (B "range" (by decide +kernel)) (pa_cons (pe_callB call_len_seq (by rfl) (B "len" (by decide +kernel)) PySem.boot_len (pa_cons (pv 3) pa_nil)) pa_nil)) (blkOk_by (own := [("k", 8)]) (N := suN) (sc := defScope sSumN) (by decide +kernel))
          (fun _ _ _ _ _ => pg_name (i := 8) scSumN.nd rfl (Or.inl rfl)) (fun _ _ _ _ _ => pts_nil)
          (fun _ _ _ _ _ => pe_op op_add (pe_op op_mul (pe_ix ix_tup (pv 3) (pv 8) (fun _ _ => rfl)) (pv 6)) (pe_op op_mul (pe_op op_mul (pv 2) (pe_ix ix_tup (pv 5) (pv 8) (fun _ _ => rfl))) (pv 4))))
      (pss_one (ps_ret (pe_call G1 hr rfl g1 F1.kp b1 .nil pass0 (pa_cons (pv 7) (pa_cons (pe_op op_mul (pv 4) (pv 6)) pa_nil)))))))), ?_⟩
    obtain ⟨p, t, rfl, hp, ht⟩ := hv
    obtain ⟨p2, t2, rfl, hp2, ht2⟩ := hu
    refine ⟨_, rfl, p, _, rfl, hp, rfl, _, _, rfl, _, _, rfl, rfl, ?_⟩
    refine ⟨_, rfl, p2, _, rfl, hp2, rfl, _, _, rfl, _, _, rfl, rfl, ?_⟩
    refine ⟨_, rfl, t, _, rfl, .inr ht, _, rfl, by rw [List.length_map]; omega, by rw [List.length_map]; omega, fun D hD => ?_⟩
    have en : ((a.1.map V.int).length : Int).toNat = a.1.length := by rw [List.length_map]; omega
    rw [en]
    refine lc_range (lo := 0) (n := a.1.length) (fun i H2 => Same H H2 ∧ H2 D = some (.lst (((List.range i).map fun k => a.1.getD k 0 * b.2 + sg * b.1.getD k 0 * a.2).map V.int))) ⟨same_upd hD, upd_same⟩ ?_ ?_
    · rintro i H2 hi ⟨s2, h2⟩
      have e0 : (0 : Int) + (i : Int) = (i : Int) := Int.zero_add _
      refine ⟨rfl, _, rfl, _, rfl, t, _, _, _, rfl, rfl, s2.tup ht, by rw [e0]; exact atI_nat (getD_of (by omega)), _, rfl, _, _, rfl, rfl, Or.inr ⟨by omega, by omega⟩, _, rfl, _, rfl, _, rfl, t2, _, _, _, rfl, rfl, s2.tup ht2, by rw [e0]; exact atI_nat (getD_of (by omega)), _, _, rfl, rfl, Or.inl ⟨by omega, by omega⟩, _, rfl, _, _, rfl, rfl, Or.inr ⟨by omega, by omega⟩, _, _, rfl, rfl, ?_⟩
      refine ⟨_, h2, sl_lt (by rw [List.length_map, List.length_map, List.length_range]; omega), same_at s2 hD, ?_⟩
      rw [upd_same, List.range_succ, List.map_append, List.map_append]
      rfl
    · rintro H2 ⟨s2, h2⟩
      have q1 : 1 * 1 ≤ a.2 * b.2 := Int.mul_le_mul a1 c1 (by decide) (by omega)
      have q2 : a.2 * b.2 ≤ 1000 * 1000 := Int.mul_le_mul a2 c2 (by omega) (by decide)
      refine ⟨_, rfl, _, rfl, _, rfl, _, _, rfl, rfl, Or.inl ⟨by omega, by omega⟩, D, sumT a b sg, a.2 * b.2, rfl, .inl (SqL.of h2), by omega, by omega, by unfold sumT; rw [List.length_map, List.length_range]; omega, fun v' H3 s3 hv' => ?_⟩
      exact k v' H3 (s2.trans s3) hv'
def spPlus (K : PySem.W.Frag) : Sp := fun vs H Q _ => ∃ (e : Int) (v u : V) (a b : Num), vs = [.int e, v, u] ∧ e ∈ ER ∧ NumAt K H v a ∧ NumAt K H u b ∧ NumOk e a ∧ NumOk e b ∧ ∀ v' H', Same H H' → NumAt K H' v' (sumN a b 1) → Q v' H'
theorem scPlus : FnScope ["order", "one", "other"] ["order", "one", "other"] (defScope sPlus) := ⟨rfl, rfl, rfl, by decide +kernel, rfl, by decide +kernel, by decide +kernel⟩
theorem ok_plus (F : FnP K "plus" sPlus f fd) (F1 : FnP K "check_number" sChkN f1 fd1) (g1 : mg "check_number" = some (.ref f1)) (G1 : FnOk P w K mg base CX0 5 f1 fd1 ["order", "number"] (spChkN K)) (F2 : FnP K "_sum" sSumN f2 fd2) (g2 : mg "_sum" = some (.ref f2)) (G2 : FnOk P w K mg base CX0 2 f2 fd2 ["one", "other", "sign"] (spSumN K)) : FnOk P w K mg base CX0 6 f fd ["order", "one", "other"] (spPlus K) := by
  have b1 : Binds K fd1 ["order", "number"] [] := F1.bindsN fun _ _ _ _ _ _ us hl => match us, hl with | [_, _], _ => rfl
  have b2 : Binds K fd2 ["one", "other", "sign"] [] := F2.bindsN fun _ _ _ _ _ _ us hl => match us, hl with | [_, _, _], _ => rfl
  refine F.ok scPlus (fun vs H Q E h => ?_) (fun cdv A outer s H vs Q E hr h => ?_)
  · obtain ⟨e, v, u, a, b, rfl, _⟩ := h
    rfl
  · obtain ⟨e, v, u, a, b, rfl, he, hv, hu, oa, ob, k⟩ := h
    refine ⟨_, PSs.nox (pss_cons (ps_expr (pe_call G1 hr rfl g1 F1.kp b1 .nil pass0 (pa_cons (pv 0) (pa_cons (pv 1) pa_nil))))
      (pss_cons (ps_expr (pe_call G1 hr rfl g1 F1.kp b1 .nil pass0 (pa_cons (pv 0) (pa_cons (pv 2) pa_nil))))
      (pss_one (ps_ret (pe_call G2 (hr.mono (by decide)) rfl g2 F2.kp b2 .nil pass0 (pa_cons (pv 1) (pa_cons (pv 2) (pa_cons pe_int pa_nil)))))))), ?_⟩
    have eb := er_bd e he
    have eu := er_units e he
    have la := oa.len
    have lb := ob.len
    refine ⟨_, rfl, _, rfl, e, _, a, rfl, by omega, by omega, hv, oa, fun H1 s1 => ?_⟩
    refine ⟨_, rfl, _, rfl, e, _, b, rfl, by omega, by omega, s1.num hu, ob, fun H2 s2 => ?_⟩
    have t := s1.trans s2
    exact ⟨_, rfl, _, rfl, _, _, a, b, 1, rfl, t.num hv, t.num hu, by decide, by decide, by omega, by omega, oa.pos, oa.big, ob.pos, ob.big, fun v' H3 s3 hv' => k v' H3 (t.trans s3) hv'⟩
end
end K09

/-! row_back, voice. -/
namespace K09
open PySem PySem.Spec PyProof.Rows L2
section
variable {P : Program} {w : World} {K : PySem.W.Frag} {mg : Str → Option Value} {base : Heap} {f f1 f2 f3 f4 f5 C fI fM : Addr} {fd fd1 fd2 fd3 fd4 fd5 fdI : FuncData}
def voN1 (r : List Int) (ns : List Num) (l : List Int) : Num := lowL (tsL r 1 l (levT ns)) (levB ns)
def spVoice (K : PySem.W.Frag) : Sp := fun vs H Q _ => ∃ (v u z : V) (r : List Int) (ns : List Num) (l : List Int), vs = [v, u, z] ∧ TupI K H v r ∧ RowAt K H u ns ∧ TupI K H z l ∧ r ∈ RR ∧ RowG r ns ∧ l ∈ placesL r ∧ ∀ v' H', Same H H' → NumAt K H' v' (voN1 r ns l) → Q v' H'
abbrev vcN : List Str := ["rings", "row", "label", "floor", "items", "bottom"]
theorem scVoice : FnScope vcN ["rings", "row", "label"] (defScope sVoice) := ⟨rfl, rfl, rfl, by decide +kernel, rfl, by decide +kernel, by decide +kernel⟩
theorem ok_voice (F : FnP K "voice" sVoice f fd) (T : FlT K mg C fI fM) (FI : FunD K "__init__" "Floor.__init__" (defArgs sFInit) (defBody sFInit) (defScope sFInit) [] [] fI fdI) (GI : FnOk P w K mg base CX0 3 fI fdI ["self", "rings"] (spFInit K C))
    (F1 : FnP K "check_row" sChkRow f1 fd1) (g1 : mg "check_row" = some (.ref f1)) (G1 : FnOk P w K mg base CX0 7 f1 fd1 ["rings", "row"] (spRow K .non)) (F2 : FnP K "check_place" sChkP f2 fd2) (g2 : mg "check_place" = some (.ref f2)) (G2 : FnOk P w K mg base CX0 5 f2 fd2 ["rings", "place"] (spChkP K))
    (F3 : FnP K "levelled" sLev f3 fd3) (g3 : mg "levelled" = some (.ref f3)) (G3 : FnOk P w K mg base CX0 1 f3 fd3 ["numbers"] (spLev K)) (F4 : FnP K "turned_sum" sTSum f4 fd4) (g4 : mg "turned_sum" = some (.ref f4)) (G4 : FnOk P w K mg base CX0 3 f4 fd4 ["floor", "items", "places", "label", "sign"] (spTS K C))
    (F5 : FnP K "lowered" sLow f5 fd5) (g5 : mg "lowered" = some (.ref f5)) (G5 : FnOk P w K mg base CX0 1 f5 fd5 ["tops", "bottom"] (spLow K)) : FnOk P w K mg base CX0 8 f fd ["rings", "row", "label"] (spVoice K) := by
  have bI : Binds K fdI ["self", "rings"] [] := FI.bindsN fun _ _ _ _ _ _ us hl => match us, hl with | [_, _], _ => rfl
  have b1 : Binds K fd1 ["rings", "row"] [] := F1.bindsN fun _ _ _ _ _ _ us hl => match us, hl with | [_, _], _ => rfl
  have b2 : Binds K fd2 ["rings", "place"] [] := F2.bindsN fun _ _ _ _ _ _ us hl => match us, hl with | [_, _], _ => rfl
  have b3 : Binds K fd3 ["numbers"] [] := F3.bindsN fun _ _ _ _ _ _ us hl => match us, hl with | [_], _ => rfl
  have b4 : Binds K fd4 ["floor", "items", "places", "label", "sign"] [] := F4.bindsN fun _ _ _ _ _ _ us hl => match us, hl with | [_, _, _, _, _], _ => rfl
  have b5 : Binds K fd5 ["tops", "bottom"] [] := F5.bindsN fun _ _ _ _ _ _ us hl => match us, hl with | [_, _], _ => rfl
  refine F.ok scVoice (fun vs H Q E h => ?_) (fun cdv A outer s H vs Q E hr h => ?_)
  · obtain ⟨v, u, z, r, ns, l, rfl, _⟩ := h
    rfl
  · obtain ⟨v, u, z, r, ns, l, rfl, ⟨a, rfl, ha⟩, hR, hz, h14, ro, hl, k⟩ := h
    refine ⟨_, PSs.nox (pss_cons (ps_expr (pe_call G1 hr rfl g1 F1.kp b1 .nil pass0 (pa_cons (pv 0) (pa_cons (pv 1) pa_nil))))
      (pss_cons (ps_expr (pe_call G2 (hr.mono (by decide)) rfl g2 F2.kp b2 .nil pass0 (pa_cons (pv 0) (pa_cons (pv 2) pa_nil))))
      (pss_cons (ps_set (i := 3) scVoice.nd rfl (Or.inl rfl) (pe_make T.mkk GI (hr.mono (by decide)) rfl T.mgC bI .nil pass0 (pa_cons (pv 0) pa_nil)))
      (pss_cons (ps_asg (pe_call G3 (hr.mono (by decide)) rfl g3 F3.kp b3 .nil pass0 (pa_cons (pv 1) pa_nil)) (pg_tup rfl (pgs_cons (pg_name (i := 4) scVoice.nd rfl (Or.inl rfl)) (pgs_cons (pg_name (i := 5) scVoice.nd rfl (Or.inl rfl)) pgs_nil))))
      (pss_one (ps_ret (pe_call G5 (hr.mono (by decide)) rfl g5 F5.kp b5 .nil pass0 (pa_cons (pe_call G4 (hr.mono (by decide)) rfl g4 F4.kp b4 .nil pass0 (pa_cons (pv 3) (pa_cons (pv 4) (pa_cons (pe_fld (pv 3) rfl) (pa_cons (pv 2) (pa_cons pe_int pa_nil)))))) (pa_cons (pv 5) pa_nil))))))))), ?_⟩
    refine ⟨_, rfl, _, rfl, _, _, r, ns, rfl, ⟨a, rfl, ha⟩, hR, h14, ro, fun H0 s0 => ?_⟩
    refine ⟨_, rfl, _, rfl, _, _, r, l, rfl, ⟨a, rfl, s0.tup ha⟩, s0.tupI hz, h14, hl, fun H1 s1' => ?_⟩
    have s1 := s0.trans s1'
    refine ⟨_, rfl, fun p dx np ndx nex => ?_⟩
    have tn : Same H1 (upd (upd H1 dx (.own p)) p (.ins C dx [])) := same_new (same_upd ndx) (by rw [upd_ne (Ne.symm nex)]; exact np)
    refine ⟨p, dx, _, r, rfl, upd_same, ⟨a, rfl, tn.tup (s1.tup ha)⟩, h14, fun H3 hF kp => ⟨rfl, ?_⟩⟩
    have s3 : Same H1 H3 := Same.made np ndx kp
    have t3 := s1.trans s3
    have h16 := rr_pl0 r h14
    have lns := ro.ok.len
    have bB := ro.ok.lev ns.length (Nat.le_refl _)
    rw [List.take_length] at bB
    refine ⟨_, rfl, _, ns, rfl, t3.row hR, by omega, ro.ok.item, ro.ok.lev, fun pt t ts H4 s4 hpt nt ht tt => ?_⟩
    refine ⟨pt, _, rfl, hpt, rfl, _, _, rfl, _, _, rfl, rfl, ?_⟩
    have hF4 := s4.floor hF
    obtain ⟨dx', ar, po, pl, h1, h2, h3, h4⟩ := id hF4
    have few : ∀ ts ∈ levT ns, ts.length ≤ 1000 := fun ts hts => by
      unfold levT at hts
      obtain ⟨n, hn, rfl⟩ := List.mem_map.mp hts
      rw [List.length_map]
      exact (ro.ok.item n hn).2.2
    have lvl : (levT ns).length = (placesL r).length := by
      unfold levT
      rw [List.length_map, ro.ok.len]
    have t4 := t3.trans s4
    refine ⟨_, rfl, _, rfl, _, rfl, p, C, dx', _, _, rfl, h1, T.cl, T.aL, g_places, _, rfl, p, t, pl, _, ts, r, l, levT ns, 1, rfl, by decide, by decide, hF4, SqL.of ht, tt, h4, t4.tupI hz, hl, h14, lvl, few, fun t2 H5 s5 nt2 ht2 => ?_⟩
    exact ⟨_, rfl, t2, _, levB ns, rfl, .inr (SqT.of ht2), by omega, by omega, tsL_len h14 _ _ _, fun v' H6 s6 hv' => k v' H6 ((t4.trans s5).trans s6) hv'⟩
end
end K09

/-! is_zero, filled, sounding. -/
namespace K09
open PySem PySem.Spec PyProof.Rows L2
/-- a tuple of places -/
def PlT (K : PySem.W.Frag) (H : Hp) (v : V) (ps : List (List Int)) : Prop := ∃ p ks, v = .ref p ∧ SqT K H p (rf ks) ∧ ks.map (·.2) = ps ∧ TL K H ks
section
variable {P : Program} {w : World} {K : PySem.W.Frag} {mg : Str → Option Value} {base : Heap} {f f1 f2 f3 f4 f5 C fI fM : Addr} {fd fd1 fd2 fd3 fd4 fd5 fdI : FuncData}
def spZero (K : PySem.W.Frag) : Sp := fun vs H Q _ => ∃ (v : V) (n : Num), vs = [v] ∧ NumAt K H v n ∧ Q (.bl (!someN n.1)) H
theorem scZero : FnScope ["number", "tops", "_"] ["number"] (defScope sIsZero) := ⟨rfl, rfl, rfl, by decide +kernel, rfl, by decide +kernel, by decide +kernel⟩
theorem ok_zero (F : FnP K "is_zero" sIsZero f fd) (B : mg "any" = none) : FnOk P w K mg base CX0 1 f fd ["number"] (spZero K) := by
  refine F.ok scZero (fun vs H Q E h => ?_) (fun cdv A outer s H vs Q E hr h => ?_)
  · obtain ⟨v, n, rfl, _⟩ := h
    rfl
  · obtain ⟨v, n, rfl, hv, k⟩ := h
    refine ⟨_, PSs.nox (pss_cons (ps_asg (pv 0) (pg_tup rfl (pgs_cons (pg_name (i := 1) scZero.nd rfl (Or.inl rfl)) (pgs_cons (pg_name (i := 2) scZero.nd rfl (Or.inl rfl)) pgs_nil))))
      (pss_one (ps_ret (pe_not (pe_callB (cr_anyT rfl) (by rfl) B (by decide +kernel) (pa_cons (pv 1) pa_nil)))))), ?_⟩
    obtain ⟨p, t, rfl, hp, ht⟩ := hv
    refine ⟨_, rfl, p, _, rfl, hp, rfl, _, _, rfl, _, _, rfl, rfl, ?_⟩
    exact ⟨_, rfl, t, n.1, rfl, ht, _, rfl, k⟩
def spSome (K : PySem.W.Frag) (C : Addr) : Sp := fun vs H Q _ => ∃ (p : Addr) (v : V) (r : List Int) (ns : List Num), vs = [.ref p, v] ∧ FloorAt K C H p r ∧ RowAt K H v ns ∧ r ∈ RR ∧ ns.length = (placesL r).length ∧ ∀ v' H', Same H H' → PlT K H' v' (filL r ns ns.length) → Q v' H'
abbrev smN : List Str := ["floor", "row", "place", "item"]
theorem scSome : FnScope smN ["floor", "row"] (defScope sSome) := ⟨rfl, rfl, rfl, by decide +kernel, rfl, by decide +kernel, by decide +kernel⟩
theorem ok_some (F : FnP K "_places_of_some" sSome f fd) (B : Bl mg) (T : FlT K mg C fI fM) (F1 : FnP K "is_zero" sIsZero f1 fd1) (g1 : mg "is_zero" = some (.ref f1)) (G1 : FnOk P w K mg base CX0 1 f1 fd1 ["number"] (spZero K)) : FnOk P w K mg base CX0 2 f fd ["floor", "row"] (spSome K C) := by
  have b1 : Binds K fd1 ["number"] [] := F1.bindsN fun _ _ _ _ _ _ us hl => match us, hl with | [_], _ => rfl
  refine F.ok scSome (fun vs H Q E h => ?_) (fun cdv A outer s H vs Q E hr h => ?_)
  · obtain ⟨p, v, r, ns, rfl, _⟩ := h
    rfl
  · obtain ⟨p, v, r, ns, rfl, hF, hR, h14, hl, k⟩ := h
    refine ⟨_, PSs.nox (pss_one (ps_ret (pe_callTy call_tuple_of (by rfl) (B "tuple" (by decide +kernel)) (by decide +kernel) (pa_cons
      (pe_lc (own := [("place", 2), ("item", 3)]) (g := gTup K 2 (gCons (gName 2) (gCons (gName 3) gNil))) (tt := tNot (tTest (tCall (spZero K) [] E0 (tCons (tVar 3) tNil)))) (te := tVar 2) rfl scSome.nd
        (pi_zipM (by rfl) (B "zip" (by decide +kernel)) (pa_cons (pe_fld (pv 0) rfl) (pa_cons (pv 1) pa_nil))) (blkOk_by (own := [("place", 2), ("item", 3)]) (N := smN) (sc := defScope sSome) (by decide +kernel))
        (fun _ _ _ _ _ => pg_tup rfl (pgs_cons (pg_name (i := 2) scSome.nd rfl (Or.inl rfl)) (pgs_cons (pg_name (i := 3) scSome.nd rfl (Or.inl rfl)) pgs_nil))) (fun _ _ _ _ _ => pts_one (pt_not (pt_val (pe_call G1 hr rfl g1 F1.kp b1 .nil pass0 (pa_cons (pv 3) pa_nil)))))
        (fun _ _ _ _ _ => pv 2)) pa_nil)))), ?_⟩
    obtain ⟨dx, ar, po, pl, h1, h2, h3, h4⟩ := id hF
    obtain ⟨kp, hk1, hk2, hk3⟩ := id h4
    obtain ⟨q, us, rfl, hq, hN⟩ := hR
    have hr16 := rr_pl0 r h14
    have hkl : (rf kp).length = (placesL r).length := by rw [← hk2, List.length_map, List.length_map]
    have hul : us.length = (rf kp).length := by rw [hN.1, hl, hkl]
    refine ⟨_, rfl, p, C, dx, _, _, rfl, h1, T.cl, T.aL, g_places, _, rfl, pl, q, rf kp, us, rfl, SqL.of hk1, hq, fun D hD => ?_⟩
    refine lc_it (walk_zipM (K := K) (a := pl) (b := q) (xs := rf kp) (ys := us) hul) (fun i H2 => Same H H2 ∧ ∃ ks, H2 D = some (.lst (rf ks)) ∧ TL K H2 ks ∧ ks.map (·.2) = filL r ns i) ⟨same_upd hD, [], upd_same, tl_nil, by simp [filL]⟩ (fun i H2 _ ⟨s2, _⟩ => ⟨SqL.of (s2 _ _ hk1), s2.tup hq⟩) ?_ ?_
    · rintro i x H2 H3 hi ⟨s2, ks, hD2, tk, ek⟩ ⟨Tt, c1, y, rfl, hT, rfl, ec, ey⟩
      obtain ⟨qq, rfl, hqq⟩ := getR ec
      obtain ⟨n, hn, hnum⟩ := hN.get ey
      have hqm := List.mem_of_getElem? hqq
      have hq2 : (placesL r)[i]? = some qq.2 := by rw [← hk2, List.getElem?_map, hqq]; rfl
      have s3 : Same H (upd H2 Tt (.tup [.ref qq.1, y])) := same_new s2 hT
      have t23 : Same H2 (upd H2 Tt (.tup [.ref qq.1, y])) := same_upd hT
      have ez : ((placesL r).zip ns)[i]? = some (qq.2, n) := by
        rw [List.getElem?_zip_eq_some]
        exact ⟨hq2, hn⟩
      refine ⟨Tt, _, rfl, SqT.of upd_same, rfl, _, _, rfl, _, _, rfl, rfl, rfl, ?_⟩
      refine ⟨_, rfl, y, n, rfl, s3.num hnum, ?_⟩
      refine ⟨_, rfl, ?_⟩
      have kl : ks.length ≤ i := by
        have := congrArg List.length ek
        rw [List.length_map] at this
        rw [this]
        unfold filL
        exact Nat.le_trans (List.length_filterMap_le _ _) (List.length_take_le _ _)
      have hD3 : upd H2 Tt (.tup [.ref qq.1, y]) D = some (.lst (rf ks)) := t23 _ _ hD2
      have il := ltL hq2
      refine ite2 (fun c => ?_) (fun c => ?_)
      · have c1 : someN n.1 = true := by simpa using c
        refine ⟨_, rfl, _, hD3, sl_lt (by rw [List.length_map]; omega), same_at s3 hD, ks ++ [(qq.1, qq.2)], ?_, tl_at (tl_snoc (t23.tl tk) (s3.tup (hk3 qq hqm))) hD3, ?_⟩
        · rw [upd_same, rf_snoc]
        · rw [List.map_append, ek]
          unfold filL
          rw [takeS ez, List.filterMap_append]
          simp [c1]
      · have c1 : ¬ someN n.1 = true := by simpa using c
        refine ⟨s3, ks, hD3, t23.tl tk, ?_⟩
        rw [ek]
        unfold filL
        rw [takeS ez, List.filterMap_append]
        simp [c1]
    · rintro H2 ⟨s2, ks, hD2, tk, ek⟩
      rw [hkl, ← hl] at ek
      refine ⟨D, _, rfl, .inl ⟨SqL.of hD2, fun t ht => ?_⟩⟩
      have st := same_upd (o := .tup (rf ks)) ht
      exact k _ _ (s2.trans st) ⟨t, ks, rfl, SqT.of upd_same, ek, st.tl tk⟩
end
end K09

/-! filled, sounding. -/
namespace K09
open PySem PySem.Spec PyProof.Rows L2
section
variable {P : Program} {w : World} {K : PySem.W.Frag} {mg : Str → Option Value} {base : Heap} {f f1 f2 f3 f4 f5 C fI fM : Addr} {fd fd1 fd2 fd3 fd4 fd5 fdI : FuncData}
theorem voL_len (r : List Int) (ns : List Num) : (voL r ns).length = (placesL r).length := by
  unfold voL
  rw [List.length_map]
def spSnd (K : PySem.W.Frag) : Sp := fun vs H Q _ => ∃ (v u : V) (r : List Int) (ns : List Num), vs = [v, u] ∧ TupI K H v r ∧ RowAt K H u ns ∧ r ∈ RR ∧ RowG r ns ∧ ∀ v' H', Same H H' → PlT K H' v' (filL r (voL r ns) (voL r ns).length) → Q v' H'
theorem scSnd : FnScope ["rings", "row", "floor"] ["rings", "row"] (defScope sSounding) := ⟨rfl, rfl, rfl, by decide +kernel, rfl, by decide +kernel, by decide +kernel⟩
theorem ok_sounding (F : FnP K "sounding" sSounding f fd) (T : FlT K mg C fI fM) (FI : FunD K "__init__" "Floor.__init__" (defArgs sFInit) (defBody sFInit) (defScope sFInit) [] [] fI fdI) (GI : FnOk P w K mg base CX0 3 fI fdI ["self", "rings"] (spFInit K C))
    (F1 : FnP K "check_row" sChkRow f1 fd1) (g1 : mg "check_row" = some (.ref f1)) (G1 : FnOk P w K mg base CX0 7 f1 fd1 ["rings", "row"] (spRow K .non)) (F2 : FnP K "_places_of_some" sSome f2 fd2) (g2 : mg "_places_of_some" = some (.ref f2)) (G2 : FnOk P w K mg base CX0 2 f2 fd2 ["floor", "row"] (spSome K C))
    (F3 : FnP K "voices_of" sVOf f3 fd3) (g3 : mg "voices_of" = some (.ref f3)) (G3 : FnOk P w K mg base CX0 4 f3 fd3 ["floor", "row"] (spVO K C)) : FnOk P w K mg base CX0 8 f fd ["rings", "row"] (spSnd K) := by
  have bI : Binds K fdI ["self", "rings"] [] := FI.bindsN fun _ _ _ _ _ _ us hl => match us, hl with | [_, _], _ => rfl
  have b1 : Binds K fd1 ["rings", "row"] [] := F1.bindsN fun _ _ _ _ _ _ us hl => match us, hl with | [_, _], _ => rfl
  have b2 : Binds K fd2 ["floor", "row"] [] := F2.bindsN fun _ _ _ _ _ _ us hl => match us, hl with | [_, _], _ => rfl
  have b3 : Binds K fd3 ["floor", "row"] [] := F3.bindsN fun _ _ _ _ _ _ us hl => match us, hl with | [_, _], _ => rfl
  refine F.ok scSnd (fun vs H Q E h => ?_) (fun cdv A outer s H vs Q E hr h => ?_)
  · obtain ⟨v, u, r, ns, rfl, _⟩ := h
    rfl
  · obtain ⟨v, u, r, ns, rfl, ⟨a, rfl, ha⟩, hR, h14, ro, k⟩ := h
    refine ⟨_, PSs.nox (pss_cons (ps_expr (pe_call G1 hr rfl g1 F1.kp b1 .nil pass0 (pa_cons (pv 0) (pa_cons (pv 1) pa_nil))))
      (pss_cons (ps_set (i := 2) scSnd.nd rfl (Or.inl rfl) (pe_make T.mkk GI (hr.mono (by decide)) rfl T.mgC bI .nil pass0 (pa_cons (pv 0) pa_nil)))
      (pss_one (ps_ret (pe_call G2 (hr.mono (by decide)) rfl g2 F2.kp b2 .nil pass0 (pa_cons (pv 2) (pa_cons (pe_call G3 (hr.mono (by decide)) rfl g3 F3.kp b3 .nil pass0 (pa_cons (pv 2) (pa_cons (pv 1) pa_nil))) pa_nil))))))), ?_⟩
    refine ⟨_, rfl, _, rfl, _, _, r, ns, rfl, ⟨a, rfl, ha⟩, hR, h14, ro, fun H1 s1 => ?_⟩
    refine ⟨_, rfl, fun p dx np ndx nex => ?_⟩
    have tn : Same H1 (upd (upd H1 dx (.own p)) p (.ins C dx [])) := same_new (same_upd ndx) (by rw [upd_ne (Ne.symm nex)]; exact np)
    refine ⟨p, dx, _, r, rfl, upd_same, ⟨a, rfl, tn.tup (s1.tup ha)⟩, h14, fun H3 hF kp => ⟨rfl, ?_⟩⟩
    have s3 : Same H1 H3 := Same.made np ndx kp
    have t3 := s1.trans s3
    refine ⟨_, rfl, _, rfl, _, rfl, p, _, r, ns, rfl, hF, t3.row hR, h14, ro.ok, fun v' H4 s4 hv' => ?_⟩
    exact ⟨p, v', r, voL r ns, rfl, s4.floor hF, hv', h14, voL_len r ns, fun v2 H5 s5 hv2 => k v2 H5 ((t3.trans s4).trans s5) hv2⟩
end
end K09

/-! Lots: is_ascending, is_lot, check_lot. -/
namespace K09
open PySem PySem.Spec PyProof.Rows L2
section
variable {X : Cx}
def rInDt (K : PySem.W.Frag) : R2 := fun x y H Q => ∃ d ds, Dp K H x d ∧ Dp K H y (.tuple ds) ∧ SeqAt.shaped d = true ∧ SeqAt.shaped (.list ds) = true ∧ Q (.bl (ds.any fun z => PyData.eqv z d)) H
theorem op_inDt (hu : X.A.units + 65 < cLine) : OpR X (compareOp .In) (rInDt X.K) := by
  intro pins s σ H x y v u Q I rx ry h
  obtain ⟨d, ds, hd, he, sd, se, q⟩ := h
  obtain ⟨as, r1⟩ := Dp.reads I d x v hd rx
  obtain ⟨bs, r2⟩ := Dp.reads I (.tuple ds) y u he ry
  exact SeqAt.in_tuple_reads r2 r1 (SeqAt.canLay_of_shaped se) (SeqAt.canLay_of_shaped sd) (room_in_shaped sd hu) ⟨.bl _, H, I, rfl, q⟩
end
theorem ints_shaped (ns : List Int) : SeqAt.shaped (intsD ns) = true := by
  unfold SeqAt.shaped
  have h := ints_depth ns
  have e : (PyData.tuple (ns.map PyData.int)).depth ≤ 64 := by
    simp only [PyData.depth]
    omega
  simp only [PyData.canLay0, ints_lay, Bool.true_and]
  exact decide_eq_true e
theorem pls_lay : ∀ ps : List (List Int), PyData.canLayAll0 (ps.map intsD) = true
  | [] => rfl
  | p :: ps => by simp [PyData.canLayAll0, PyData.canLay0, ints_lay p, pls_lay ps]
theorem pls_depth : ∀ ps : List (List Int), PyData.depthAll (ps.map intsD) ≤ 2
  | [] => by simp [PyData.depthAll]
  | p :: ps => by
    have h1 := ints_depth p
    have h2 := pls_depth ps
    simp only [List.map_cons, PyData.depthAll, PyData.depth]
    omega
theorem pls_shaped (ps : List (List Int)) : SeqAt.shaped (.list (ps.map intsD)) = true := by
  unfold SeqAt.shaped
  have h := pls_depth ps
  have e : (PyData.list (ps.map intsD)).depth ≤ 64 := by
    simp only [PyData.depth]
    omega
  simp only [PyData.canLay0, pls_lay, Bool.true_and]
  exact decide_eq_true e
theorem eqv_all : ∀ (a b : List Int), a.length = b.length → PyData.eqvAll (a.map PyData.int) (b.map PyData.int) = decide (a = b)
  | [], [], _ => by simp [PyData.eqvAll]
  | x :: a, y :: b, h => by
    have e := eqv_all a b (by simpa using h)
    simp only [List.map_cons, PyData.eqvAll, PyData.eqv, e]
    by_cases c : x = y <;> by_cases d : a = b <;> simp [c, d]
  | [], _ :: _, h => by simp at h
  | _ :: _, [], h => by simp at h
theorem eqv_tup (a b : List Int) (h : a.length = b.length) : PyData.eqv (intsD a) (intsD b) = decide (a = b) := by
  rw [← eqv_all a b h]
  simp [PyData.eqv, h]
theorem any_eqv {ps : List (List Int)} {p : List Int} (h : ∀ q ∈ ps, q.length = p.length) : ((ps.map intsD).any fun z => PyData.eqv z (intsD p)) = decide (p ∈ ps) := by
  rw [Bool.eq_iff_iff, List.any_eq_true, decide_eq_true_iff]
  constructor
  · rintro ⟨z, hz, e⟩
    obtain ⟨q, hq, rfl⟩ := List.mem_map.mp hz
    rw [eqv_tup q p (h q hq), decide_eq_true_iff] at e
    rw [← e]
    exact hq
  · intro hp
    refine ⟨intsD p, List.mem_map_of_mem hp, ?_⟩
    rw [eqv_tup p p rfl]
    exact decide_eq_true rfl
theorem dp_all {K : PySem.W.Frag} {H : Hp} : ∀ {ks : List (Addr × List Int)}, TL K H ks → DpAll K H (rf ks) ((ks.map (·.2)).map intsD)
  | [], _ => .nil
  | k :: ks, h => .cons (.tup (h k List.mem_cons_self) (dp_ints k.2)) (dp_all fun q hq => h q (List.mem_cons_of_mem _ hq))
theorem plt_dp {K : PySem.W.Frag} {H : Hp} {v : V} {ps : List (List Int)} (h : PlT K H v ps) : Dp K H v (.tuple (ps.map intsD)) := by
  obtain ⟨p, ks, rfl, h1, rfl, h3⟩ := h
  exact .tup h1 (dp_all h3)
/-- one behind the other -/
def AscL (ps : List (List Int)) : Prop := ∀ k, k + 1 < ps.length → HT.lexLt (ps.getD k []) (ps.getD (k + 1) []) = true
section
variable {P : Program} {w : World} {K : PySem.W.Frag} {mg : Str → Option Value} {base : Heap} {f f1 f2 f3 f4 f5 C fI fM : Addr} {fd fd1 fd2 fd3 fd4 fd5 fdI : FuncData}
def spAsc (K : PySem.W.Frag) : Sp := fun vs H Q _ => ∃ (u : V) (ps : List (List Int)), vs = [u] ∧ PlT K H u ps ∧ ps.length ≤ 64 ∧ AscL ps ∧ ∀ H', Same H H' → Q (.bl true) H'
theorem scAsc : FnScope ["items", "k"] ["items"] (defScope sIsAsc) := ⟨rfl, rfl, rfl, by decide +kernel, rfl, by decide +kernel, by decide +kernel⟩
theorem plt_get {ks : List (Addr × List Int)} {k : Nat} (h : k < ks.length) : ∃ q, ks[k]? = some q ∧ (rf ks)[k]? = some (.ref q.1) ∧ (ks.map (·.2)).getD k [] = q.2 := by
  refine ⟨ks[k], List.getElem?_eq_getElem h, ?_, ?_⟩
  · rw [List.getElem?_map, List.getElem?_eq_getElem h]
    rfl
  · rw [List.getD_eq_getElem?_getD, List.getElem?_map, List.getElem?_eq_getElem h]
    rfl
theorem ok_asc (F : FnP K "is_ascending" sIsAsc f fd) (B : Bl mg) : FnOk P w K mg base CX0 1 f fd ["items"] (spAsc K) := by
  refine F.ok scAsc (fun vs H Q E h => ?_) (fun cdv A outer s H vs Q E hr h => ?_)
  · obtain ⟨u, ps, rfl, _⟩ := h
    rfl
  · obtain ⟨u, ps, rfl, ⟨b, ks, rfl, hb, rfl, hk⟩, hl, asc, k⟩ := h
    refine ⟨_, PSs.nox (pss_one (ps_ret (pe_callB (cr_all rfl) (by rfl) (B "all" (by decide +kernel)) (by decide +kernel) (pa_cons
        (pe_lc (own := [("k", 1)]) (g := gName 1) (tt := tYes) (te := tOp (rLtT K) (tOp (rIxT K) (tVar 0) (tVar 1)) (tOp (rIxT K) (tVar 0) (tOp (rI0 fun i j => .int (i + j)) (tVar 1) (tC (.int 1))))) rfl scAsc.nd
          (pi_range1 rfl (B "range" (by decide +kernel)) (pa_cons (pe_op op_sub (pe_callB call_len_seq (by rfl) (B "len" (by decide +kernel)) PySem.boot_len (pa_cons (pv 0) pa_nil)) pe_int) pa_nil))
          (blkOk_by (own := [("k", 1)]) (N := ["items", "k"]) (sc := defScope sIsAsc) (by decide +kernel)) (fun _ _ _ _ _ => pg_name (i := 1) scAsc.nd rfl (Or.inl rfl)) (fun _ _ _ _ _ => pts_nil)
          (fun _ _ _ _ _ => pe_cmpR (op_ltT (Nat.lt_of_le_of_lt (Nat.le_add_right _ _) hr.units)) (pe_ix ix_tup (pv 0) (pv 1) (fun _ _ => rfl)) (pe_ix ix_tup (pv 0) (pe_op op_add (pv 1) pe_int) (fun _ _ => rfl)) (nomark _))) pa_nil)))), ?_⟩
    rw [List.length_map] at hl
    refine ⟨_, rfl, b, _, rfl, .inr hb, ?_⟩
    refine ⟨_, _, rfl, rfl, _, rfl, by rw [List.length_map]; omega, by rw [List.length_map]; omega, fun D hD => ?_⟩
    have en : (((rf ks).length : Int) - 1).toNat = ks.length - 1 := by rw [List.length_map]; omega
    rw [en]
    refine lc_range (lo := 0) (n := ks.length - 1) (fun i H2 => Same H H2 ∧ H2 D = some (.lst ((List.replicate i true).map V.bl))) ⟨same_upd hD, upd_same⟩ ?_ ?_
    · rintro i H2 hi ⟨s2, h2⟩
      have e0 : (0 : Int) + (i : Int) = (i : Int) := Int.zero_add _
      obtain ⟨q1, k1, r1, d1⟩ := plt_get (ks := ks) (k := i) (by omega)
      obtain ⟨q2, k2, r2, d2⟩ := plt_get (ks := ks) (k := i + 1) (by omega)
      have lt := asc i (by rw [List.length_map]; omega)
      rw [d1, d2] at lt
      have e1 : (0 : Int) + (i : Int) + 1 = ((i + 1 : Nat) : Int) := by omega
      refine ⟨rfl, _, rfl, _, rfl, b, _, _, _, rfl, rfl, s2.tup hb, by rw [e0]; exact atI_nat r1, _, rfl, _, rfl, _, _, rfl, rfl, b, _, _, _, rfl, rfl, s2.tup hb, by rw [e1]; exact atI_nat r2, q1.1, q2.1, q1.2, q2.2, rfl, rfl, s2.tup (hk q1 (List.mem_of_getElem? k1)), s2.tup (hk q2 (List.mem_of_getElem? k2)), ?_⟩
      refine ⟨_, h2, sl_lt (by rw [List.length_map, List.length_replicate]; omega), same_at s2 hD, ?_⟩
      rw [upd_same, List.replicate_succ', List.map_append, lt]
      rfl
    · rintro H2 ⟨s2, h2⟩
      refine ⟨D, _, rfl, SqL.of h2, ?_⟩
      rw [all_true]
      exact k H2 s2
def spIsLot (K : PySem.W.Frag) (b : V) : Sp := fun vs H Q _ => ∃ (v u : V) (r : List Int) (ps : List (List Int)), vs = [v, u] ∧ TupI K H v r ∧ PlT K H u ps ∧ r ∈ RR ∧ (∀ p ∈ ps, p ∈ placesL r) ∧ ps.length ≤ 64 ∧ AscL ps ∧ ∀ H', Same H H' → Q b H'
theorem _root_.L2.Same.plt {K : PySem.W.Frag} {H H' : Hp} {v : V} {ps : List (List Int)} (e : Same H H') (h : PlT K H v ps) : PlT K H' v ps := by
  obtain ⟨p, ks, rfl, h1, h2, h3⟩ := h
  exact ⟨p, ks, rfl, e.tup h1, h2, fun q hq => e.tup (h3 q hq)⟩
theorem scIsLot : FnScope ["rings", "thing", "item"] ["rings", "thing"] (defScope sIsLot) := ⟨rfl, rfl, rfl, by decide +kernel, rfl, by decide +kernel, by decide +kernel⟩
theorem ok_isLot (F : FnP K "is_lot" sIsLot f fd) (B : Bl mg) (F1 : FnP K "check_rings" sChkR f1 fd1) (g1 : mg "check_rings" = some (.ref f1)) (G1 : FnOk P w K mg base CX0 4 f1 fd1 ["rings"] (spNon K))
    (F2 : FnP K "is_place" sIsPl f2 fd2) (g2 : mg "is_place" = some (.ref f2)) (G2 : FnOk P w K mg base CX0 3 f2 fd2 ["rings", "thing"] (spIsPl K)) (F3 : FnP K "is_ascending" sIsAsc f3 fd3) (g3 : mg "is_ascending" = some (.ref f3)) (G3 : FnOk P w K mg base CX0 1 f3 fd3 ["items"] (spAsc K)) :
    FnOk P w K mg base CX0 5 f fd ["rings", "thing"] (spIsLot K (.bl true)) := by
  have b1 : Binds K fd1 ["rings"] [] := F1.bindsN fun _ _ _ _ _ _ us hl => match us, hl with | [_], _ => rfl
  have b2 : Binds K fd2 ["rings", "thing"] [] := F2.bindsN fun _ _ _ _ _ _ us hl => match us, hl with | [_, _], _ => rfl
  have b3 : Binds K fd3 ["items"] [] := F3.bindsN fun _ _ _ _ _ _ us hl => match us, hl with | [_], _ => rfl
  refine F.ok scIsLot (fun vs H Q E h => ?_) (fun cdv A outer s H vs Q E hr h => ?_)
  · obtain ⟨v, u, r, ps, rfl, _⟩ := h
    rfl
  · obtain ⟨v, u, r, ps, rfl, ⟨a, rfl, ha⟩, hP, h14, hin, hl, asc, k⟩ := h
    refine ⟨_, PSs.nox (pss_cons (ps_expr (pe_call G1 hr rfl g1 F1.kp b1 .nil pass0 (pa_cons (pv 0) pa_nil)))
      (pss_cons (ps_if (pt_not (pt_val (pe_callB call_isi (by rfl) (B "isinstance" (by decide +kernel)) (by decide +kernel) (pa_cons (pv 1) (pa_cons (pe_bltn (v := .ty "tuple") rfl (B "tuple" (by decide +kernel)) (by decide +kernel) rfl) pa_nil))))) (pss_one ps_never) pss_nil)
      (pss_one (ps_ret (pe_and (pe_callB (cr_all rfl) (by rfl) (B "all" (by decide +kernel)) (by decide +kernel) (pa_cons
        (pe_lc (own := [("item", 2)]) (g := gName 2) (tt := tYes) (te := tCall (spIsPl K) [] E0 (tCons (tVar 0) (tCons (tVar 2) tNil))) rfl scIsLot.nd (pi_tup (pv 1))
          (blkOk_by (own := [("item", 2)]) (N := ["rings", "thing", "item"]) (sc := defScope sIsLot) (by decide +kernel)) (fun _ _ _ _ _ => pg_name (i := 2) scIsLot.nd rfl (Or.inl rfl)) (fun _ _ _ _ _ => pts_nil)
          (fun _ _ _ _ _ => pe_call G2 (hr.mono (by decide)) rfl g2 F2.kp b2 .nil pass0 (pa_cons (pv 0) (pa_cons (pv 2) pa_nil)))) pa_nil))
        (pe_one (pe_call G3 (hr.mono (by decide)) rfl g3 F3.kp b3 .nil pass0 (pa_cons (pv 1) pa_nil)))))))), ?_⟩
    obtain ⟨b, ks, rfl, hb, rfl, hk⟩ := id hP
    rw [List.length_map] at hl
    refine ⟨_, rfl, _, r, rfl, ⟨a, rfl, ha⟩, h14, fun H1 s1 => ?_⟩
    refine ⟨_, rfl, _, _, .type "tuple", _, true, rfl, .ty "tuple", tyT (s1.tup hb), kit_ty (by decide +kernel), true, rfl, iteF ?_⟩
    refine ⟨_, rfl, b, rfl, ⟨_, s1.tup hb⟩, fun D hD => ?_⟩
    refine lc_tup (K := K) (a := b) (xs := rf ks) (fun i H2 => Same H1 H2 ∧ H2 D = some (.lst ((List.replicate i true).map V.bl))) ⟨same_upd hD, upd_same⟩ (fun i H2 _ ⟨s2, _⟩ => s2.tup (s1.tup hb)) ?_ ?_
    · rintro i y H2 hi ⟨s2, h2⟩
      obtain ⟨q, rfl, hq⟩ := getR hi
      have := ltL hq
      have hqm := List.mem_of_getElem? hq
      have t2 := s1.trans s2
      refine ⟨rfl, _, rfl, _, rfl, _, .ref q.1, r, q.2, rfl, ⟨a, rfl, t2.tup ha⟩, ⟨q.1, rfl, t2.tup (hk q hqm)⟩, h14, hin _ (List.mem_map_of_mem hqm), fun H3 s3 => ?_⟩
      refine ⟨_, s3 _ _ h2, sl_lt (by rw [List.length_map, List.length_replicate]; omega), same_at (s2.trans s3) hD, ?_⟩
      rw [upd_same, List.replicate_succ', List.map_append]
      rfl
    · rintro H2 ⟨s2, h2⟩
      refine ⟨D, _, rfl, SqL.of h2, ?_⟩
      rw [all_true]
      have t2 := s1.trans s2
      exact ⟨true, rfl, ⟨_, rfl, _, _, rfl, t2.plt hP, by rw [List.length_map]; exact hl, asc, fun H3 s3 => k H3 (t2.trans s3)⟩⟩
theorem scChkLot : FnScope ["rings", "places"] ["rings", "places"] (defScope sChkLot) := ⟨rfl, rfl, rfl, by decide +kernel, rfl, by decide +kernel, by decide +kernel⟩
theorem ok_chkLot (F : FnP K "check_lot" sChkLot f fd) (F1 : FnP K "is_lot" sIsLot f1 fd1) (g1 : mg "is_lot" = some (.ref f1)) (G1 : FnOk P w K mg base CX0 5 f1 fd1 ["rings", "thing"] (spIsLot K (.bl true))) :
    FnOk P w K mg base CX0 6 f fd ["rings", "places"] (spIsLot K .non) := by
  have b1 : Binds K fd1 ["rings", "thing"] [] := F1.bindsN fun _ _ _ _ _ _ us hl => match us, hl with | [_, _], _ => rfl
  refine F.ok scChkLot (fun vs H Q E h => ?_) (fun cdv A outer s H vs Q E hr h => ?_)
  · obtain ⟨v, u, r, ps, rfl, _⟩ := h
    rfl
  · obtain ⟨v, u, r, ps, rfl, hR, hP, h14, hin, hl, asc, k⟩ := h
    refine ⟨_, PSs.nox (pss_one (ps_if (pt_not (pt_val (pe_call G1 hr rfl g1 F1.kp b1 .nil pass0 (pa_cons (pv 0) (pa_cons (pv 1) pa_nil))))) (pss_one ps_never) pss_nil)), ?_⟩
    exact ⟨_, rfl, _, rfl, v, u, r, ps, rfl, hR, hP, h14, hin, hl, asc, fun H1 s1 => ⟨_, rfl, iteF (k H1 s1)⟩⟩
end
end K09

/-! Sets of tuples of ints: add, in. -/
namespace K09
open PySem PySem.Spec PyProof.Rows L2
section
variable {X : Cx} {pins : List (Addr × Obj)} {σ : L2.St} {H : Hp} {s : Shared} {E : Value → Shared → Prop}
theorem full_of (I : Inv X pins σ H s) {D : Addr} {L : List (Addr × List Int)} (hD : H D = some (SetTO X.prog X.w D L)) (hL : TL X.K H L) : ∃ es ep t, SetTR X.prog X.w s.heap D L es ep t :=
  SetT0.full (I.hok D _ hD).1 fun p hp => I.isT (hL p hp)
theorem addT_ok {D y : Addr} {L : List (Addr × List Int)} {k : List Int} {Q : Value → Shared → Prop} (I : Inv X pins σ H s) (hu : X.A.units + 64 < cLine) (hD : H D = some (SetTO X.prog X.w D L)) (hL : TL X.K H L) (hy : SqT X.K H y (k.map V.int)) (few : L.length + 1 < 64)
    (h : ∀ s' L', (k ∈ L.map (·.2) → L' = L) → (k ∉ L.map (·.2) → L'.Perm ((y, k) :: L)) → Inv X pins σ (upd H D (SetTO X.prog X.w D L')) s' → Q .none s') : wpAny (model X.prog X.w) X.A (call (.builtin "set.add") [.ref D, .ref y]) Q E s := by
  obtain ⟨es, ep, t, R⟩ := full_of I hD hL
  have hx := I.isT hy
  have hu1 : X.A.in1.units < cLine := by
    show X.A.units + 1 < cLine
    omega
  obtain ⟨o, ho, hex, hd⟩ := R.ob
  have hT : s.TypeIs (.ref D) "set" := ⟨o, ho, hex.1⟩
  refine wpAny_call_entry F.slot_set_add hT F.entry_set_add ?_ (F.args_set_add_2 _ _)
  unfold Builtin.«set.add» Builtin.Frozenset.oneOther
  simp only [List.isEmpty_nil, bind_assoc]
  unfold Builtin.Frozenset.addrOf setAdd
  refine wpAny_bind (wpAny_pure ?_)
  try dsimp only
  refine wpAny_bind (wpAny_pure ?_)
  try dsimp only
  refine wpAny_bind (wpAny_holding (wpAny_bind (wpAny_pyHash_tuple hu1 hx ?_)))
  refine add_at (s := { s with toks := s.toks + (k.length + 1) }) R hx hu1 few fun b h' L' es' ep' t' sb R' c1 c2 => ?_
  have Z0 : SetT0 X.prog X.w h' D L' := R'.t0
  have he : ∃ u, h'.get? D = some u := by
    obtain ⟨o', ho', _⟩ := R'.ob
    exact ⟨o', ho'⟩
  show wpAny _ _ (ret Value.none) _ _ _
  exact wpAny_pure ⟨_, rfl, h _ L' c1 c2 (I.write (e := D) (t' := s.toks + (k.length + 1)) (by rw [hD]; trivial) (.inl rfl) (fun b u hb hu => (sb.2 b hb).trans hu) he (setTO_new Z0))⟩
end
/-! ### searching without adding -/
section
variable {P : Program} {w : World} {A : Around} {E : Value → Shared → Prop} {s : Shared} {a : Addr} {L : List (Addr × List Int)} {es : Array (Int × Value)} {ep : Nat} {t : SetTable}
/-- the way of k from the c-th step on -/
abbrev at_ (P : Program) (w : World) (t : SetTable) (k : List Int) (c : Nat) : SetTable.Probe := nth t.mask (runAt t.mask (SetTable.bits (thash P w k) % (t.mask + 1)) (SetTable.bits (thash P w k))) c
theorem no_dummy (m : Nat) : ∀ (n : Nat) (p : SetTable.Probe), p.dummy = none → (nth m p n).dummy = none
  | 0, _, h => h
  | n + 1, p, h => no_dummy m n (adv m p) (by unfold adv; split <;> exact h)
theorem look_from (R : SetTR P w s.heap a L es ep t) {x : Addr} {k : List Int} (hx : IsT P w s.heap k x) (hu : A.units < cLine) {M : Nat} (hMf : M < 10 * SetTable.turns t.mask) (hM : way t.mask (thash P w k) M ∉ t.place.toList)
    (hMb : ∀ c, c < M → way t.mask (thash P w k) c ∈ t.place.toList) {Q : SetFound → Shared → Prop} (yes : k ∈ L.map (·.2) → ∀ i, Q (.there (some i)) s) (no : k ∉ L.map (·.2) → Q (.free (way t.mask (thash P w k) M) false) s) :
    ∀ (f c : Nat) (stand : Option SetTable.Probe), stand.getD (t.probeStart (thash P w k)) = at_ P w t k c → c ≤ M → M - c < f → (∀ (i : Nat) p, L[i]? = some p → p.2 = k → ∃ d, c ≤ d ∧ d < M ∧ t.place.toList[i]? = some (way t.mask (thash P w k) d)) →
      wpAny (model P w) A (setSearchFrom a (.ref x) (thash P w k) false f stand) Q E s := by
  obtain ⟨o, ho, hex, hd⟩ := R.ob
  have hashAt : ∀ (i : Nat) p, L[i]? = some p → (fun i => (es[i]?.map (·.1)).getD 0) i = thash P w p.2 := fun i p hp => by
    show (es[i]?.map (·.1)).getD 0 = _
    rw [R.entry hp]
    rfl
  intro f
  induction f with
  | zero => exact fun c _ _ _ z => absurd z (Nat.not_lt_zero _)
  | succ f ih =>
    intro c stand hst hc hf hre
    rw [setSearchFrom_succ]
    refine wpAny_bind (wpAny_setState_of ho hd R.fits ?_)
    dsimp only
    refine wp_if_neg R.gw ?_
    try refine wpAny_bind (wpAny_pure ?_)
    have hnd : (at_ P w t k c).dummy = none := no_dummy _ c _ rfl
    have jump : ∀ q, nth t.mask (at_ P w t k c) q = at_ P w t k (c + q) := fun q => (nth_add t.mask c _ q).symm
    have jj : ∀ q, (nth t.mask (at_ P w t k c) q).j = way t.mask (thash P w k) (c + q) := fun q => congrArg SetTable.Probe.j (jump q)
    have eM : c + (M - c) = M := by omega
    rcases go_spec t R.tab.ris R.tab.dm (fun i => (es[i]?.map (·.1)).getD 0) (thash P w k) (10 * SetTable.turns t.mask) (M - c) _ hnd (by omega) (fun q hq => by rw [jj]; exact hMb (c + q) (by omega)) (by rw [jj, eM]; exact hM) with ⟨q, i, hq, hi, hh, hno, hpr⟩ | ⟨hno, hpr⟩
    · have pr : t.probe (fun i => (es[i]?.map (·.1)).getD 0) (thash P w k) (stand.getD (t.probeStart (thash P w k))) = some (.candidate (way t.mask (thash P w k) (c + q)) i (at_ P w t k (c + (q + 1)))) := by
        rw [hst, ← jj, ← jump]
        exact hpr
      rw [pr]
      dsimp only
      rw [jj] at hi
      have hil : i < L.length := by
        have h1 := ltL hi
        have h2 := R.tab.sz
        rw [List.length_map] at h2
        rw [Array.length_toList] at h1
        omega
      obtain ⟨p, hp⟩ : ∃ p, L[i]? = some p := ⟨_, List.getElem?_eq_getElem hil⟩
      have hmem : p ∈ L := List.mem_of_getElem? hp
      have live : t.slot (way t.mask (thash P w k) (c + q)) = .live i := slot_live R.tab.ris hi
      have rest : wpAny (model P w) A (searchRest a (.ref x) (thash P w k) false f es t (way t.mask (thash P w k) (c + q)) i (at_ P w t k (c + (q + 1)))) Q E s := by
        unfold searchRest
        rw [R.entry hp]
        dsimp only
        refine wpAny_bind (wpAny_holding (wpAny_eqBool_tuple hu (R.tup p hmem) hx ?_))
        refine wpAny_bind (wpAny_setState_of ho hd R.fits ?_)
        dsimp only
        refine wp_if_neg (by simp) ?_
        try refine wpAny_bind (wpAny_pure ?_)
        rw [sameMem]
        dsimp only
        simp only [if_true, live, R.entry hp]
        refine wpAny_bind (wpAny_isSame_ref_self (wpAny_bind (wpAny_pure ?_)))
        simp only [if_true]
        by_cases kk : p.2 = k
        · refine wp_if_pos (by simp [kk]) ?_
          exact wpAny_pure (yes (List.mem_map.mpr ⟨p, hmem, kk⟩) _)
        · refine wp_if_neg (by simp [kk]) ?_
          refine ih (c + (q + 1)) _ rfl (by omega) (by omega) fun i0 p0 h0 hk0 => ?_
          obtain ⟨d, a1, a2, a3⟩ := hre i0 p0 h0 hk0
          refine ⟨d, ?_, a2, a3⟩
          rcases Nat.lt_trichotomy d (c + q) with z | z | z
          · exact absurd ((hashAt i0 p0 h0).trans (congrArg (thash P w) hk0)) (hno (d - c) i0 (by omega) (by rw [jj, show c + (d - c) = d by omega]; exact a3))
          · rw [z] at a3
            have s0 := slot_live R.tab.ris a3
            rw [live] at s0
            injection s0 with s0
            rw [← s0, hp] at h0
            exact absurd ((congrArg Prod.snd (Option.some.inj h0)).trans hk0) kk
          · omega
      by_cases hl : t.led = true
      · refine wp_if_neg (by simp [hl]) ?_
        try refine wpAny_bind (wpAny_pure ?_)
        exact rest
      · refine wp_if_pos (by simp [hl]) ?_
        refine wpAny_bind (seen_tup hx (fun y hy => ?_) ?_)
        · obtain ⟨e, he, ee⟩ := List.mem_map.mp hy
          have he1 : e ∈ es ∧ e.1 = thash P w k := by simpa using he
          have he2 : e ∈ rowsOf P w L := by rw [← R.rows]; simpa using he1.1
          obtain ⟨p2, hp2, e2⟩ := List.mem_map.mp he2
          exact ⟨p2.2, p2.1, by rw [← ee, ← e2], R.tup p2 hp2⟩
        · refine wp_if_neg (by decide) ?_
          try refine wpAny_bind (wpAny_pure ?_)
          exact rest
    · have pr : t.probe (fun i => (es[i]?.map (·.1)).getD 0) (thash P w k) (stand.getD (t.probeStart (thash P w k))) = some (.empty (way t.mask (thash P w k) M) none) := by
        have e2 : way t.mask (thash P w k) M = (nth t.mask (at_ P w t k c) (M - c)).j := by rw [jj, eM]
        rw [hst, e2]
        exact hpr
      rw [pr]
      dsimp only
      refine wpAny_pure (no fun hm => ?_)
      obtain ⟨p0, h0, hk0⟩ := List.mem_map.mp hm
      obtain ⟨i0, hi0, e0⟩ := List.getElem_of_mem h0
      have h00 : L[i0]? = some p0 := by rw [List.getElem?_eq_getElem hi0, e0]
      obtain ⟨d, a1, a2, a3⟩ := hre i0 p0 h00 hk0
      exact hno (d - c) i0 (by omega) (by rw [jj, show c + (d - c) = d by omega]; exact a3) ((hashAt i0 p0 h00).trans (congrArg (thash P w) hk0))
theorem find_T (R : SetTR P w s.heap a L es ep t) {x : Addr} {k : List Int} (hx : IsT P w s.heap k x) (hu : A.units < cLine) {Q : Option Nat → Shared → Prop} (h : ∀ r, r.isSome = decide (k ∈ L.map (·.2)) → Q r s) : wpAny (model P w) A (setFind a (.ref x) (thash P w k)) Q E s := by
  obtain ⟨o, ho, hex, hd⟩ := R.ob
  have hroom := R.room
  obtain ⟨M, hMf, hM, hMb⟩ := R.tab.first (by rw [List.length_map]; omega) (thash P w k)
  have hbig : M < 100000 := by
    have : 10 * SetTable.turns t.mask ≤ 1420 := by
      unfold SetTable.turns
      rcases R.tab.mok with e | e | e <;> omega
    omega
  unfold setFind
  rw [show (100000 : Nat) = 99999 + 1 from rfl]
  unfold setFindIn
  refine wpAny_bind (wpAny_setState_of ho hd R.fits ?_)
  dsimp only
  refine wp_if_neg (by simp [byScan, Value.scannable]) ?_
  try refine wpAny_bind (wpAny_pure ?_)
  unfold setSearch
  refine wpAny_bind (look_from R hx hu hMf hM hMb (fun hm i => wpAny_pure (h _ (by rw [decide_eq_true hm]; rfl))) (fun hm => wpAny_pure (h _ (by rw [decide_eq_false hm]; rfl))) 100000 0 none rfl (Nat.zero_le _) (by omega) fun i p hp hk => ?_)
  have hi : (L.map fun p => thash P w p.2)[i]? = some (thash P w k) := by rw [List.getElem?_map, hp, ← hk]; rfl
  have hil : i < t.place.toList.length := by
    have h1 := ltL hp
    have h2 := R.tab.sz
    rw [List.length_map] at h2
    rw [Array.length_toList]
    omega
  have hj := List.getElem?_eq_getElem hil
  obtain ⟨c, hc, e⟩ := R.tab.before hM hi hj
  exact ⟨c, Nat.zero_le _, hc, by rw [hj, e]⟩
end
section
variable {X : Cx}
/-- k not in the set of tuples -/
def rNotInT (K : PySem.W.Frag) (P : Program) (w : World) : R2 := fun x y H Q => ∃ (b D : Addr) (L : List (Addr × List Int)) (k : List Int), x = .ref b ∧ y = .ref D ∧ SqT K H b (k.map V.int) ∧ H D = some (SetTO P w D L) ∧ TL K H L ∧ Q (.bl (!decide (k ∈ L.map (·.2)))) H
theorem or_notInT (hu : X.A.units + 64 < cLine) : OpR X (compareOp .NotIn) (rNotInT X.K X.prog X.w) := by
  intro pins s σ H x y v u Q I rx ry h
  obtain ⟨b, D, L, k, rfl, rfl, hb, hD, hL, q⟩ := h
  cases rx
  cases ry
  obtain ⟨es, ep, t, R⟩ := full_of I hD hL
  have hx := I.isT hb
  have hu1 : X.A.in1.units < cLine := by
    show X.A.units + 1 < cLine
    omega
  obtain ⟨o, ho, hex, hd⟩ := R.ob
  have hT : s.TypeIs (.ref D) "set" := ⟨o, ho, hex.1⟩
  show wpAny _ _ (do return Value.bool (!(← contains (Value.ref D) (Value.ref b))) : Sem Value) _ _ s
  refine wpAny_bind ?_
  unfold contains
  try with_reducible refine wpAny_holding ?_
  refine wpAny_bind (wpAny_specialOf hT F.slot_set_contains.lookup ?_)
  show wpAny _ _ (if (some (Value.builtin "set.__contains__") == some Value.none) = true then _ else _) _ _ s
  rw [if_neg (by rw [beq_builtin_none]; exact Bool.false_ne_true)]
  refine wpAny_bind (wpAny_callSpecialUnlessNone?_slot (name := PySem.Str.ofString "__contains__") hT F.slot_set_contains (wpAny_call_entry F.slot_set_contains hT entry_set_contains ?_ (F.args_set_contains_2 _ _)))
  unfold Builtin.«frozenset.__contains__» Builtin.Frozenset.oneOther
  simp only [List.isEmpty_nil, bind_assoc]
  unfold Builtin.Frozenset.addrOf Builtin.Frozenset.withSetAsKey setContains
  refine wpAny_bind (wpAny_pure ?_)
  try dsimp only
  refine wpAny_bind (wpAny_pure ?_)
  try dsimp only
  refine wpAny_bind (wpAny_tryCatch (wpAny_holding (wpAny_bind (wpAny_pyHash_tuple hu1 hx ?_))))
  refine wpAny_bind (find_T (s := { s with toks := s.toks + (k.length + 1) }) (es := es) (ep := ep) (t := t) (L := L) R hx hu1 fun r hr => ?_)
  refine wpAny_pure ?_
  show wpAny _ _ (ret (Value.bool r.isSome)) _ _ _
  rw [hr]
  exact wpAny_pure ⟨_, rfl, wpAny_truthy_bool (wpAny_pure ⟨.bl _, H, I.tok _, rfl, q⟩)⟩
/-- told.add(k) -/
def rAddT (K : PySem.W.Frag) (P : Program) (w : World) : V → List V → Hp → VK → Prop := fun x xs H Q => ∃ (b D : Addr) (L : List (Addr × List Int)) (k : List Int), x = .ref D ∧ xs = [.ref b] ∧ SqT K H b (k.map V.int) ∧ H D = some (SetTO P w D L) ∧ TL K H L ∧ L.length + 1 < 64 ∧
  ∀ L', (k ∈ L.map (·.2) → L' = L) → (k ∉ L.map (·.2) → L'.Perm ((b, k) :: L)) → Q .non (upd H D (SetTO P w D L'))
theorem mt_addT (hu : X.A.units + 64 < cLine) : MtR X "set.add" (rAddT X.K X.prog X.w) := by
  intro pins s σ H x xs v us Q I rx rxs h
  obtain ⟨b, D, L, k, rfl, rfl, hb, hD, hL, few, q⟩ := h
  cases rx
  cases rxs with
  | cons ry rt =>
    cases rt
    cases ry
    exact addT_ok I hu hD hL hb few fun s' L' c1 c2 I' => ⟨.non, _, I', rfl, q L' c1 c2⟩
end
end K09

/-! {elt for ..}, elt a tuple of ints: after HandS.SetBool's road for truth values. -/
namespace K09
open PySem PySem.Spec PyProof.Rows L2 PpSet
section
variable {X : Cx}
/-- {elt for target in iter if ..}, elt a tuple of ints: D the new set -/
def tScT (P : Program) (w : World) (K : PySem.W.Frag) (wi : TI) (g : TG) (tt : TT) (te : TE) (vs : List Nat) : TE := fun σ H Q => wi σ H fun J H1 => ∀ D, H1 D = none → ∃ W : Nat → Nat → Hp → Prop, (∃ m, W 0 m (upd H1 D (SetTO P w D []))) ∧ ∀ i m H, W i m H →
  (J.stop i H ∧ Q (.ref D) H) ∨ (J.go i H ∧ ∃ Nx : Hp → Prop, (∀ H', Nx H' → ∃ m', m' < m ∧ W (i + 1) m' H') ∧ ∀ x H', J.yld i H x H' → g x (wipe σ vs) H' fun σ2 H2 => wipe σ2 vs = wipe σ vs ∧ tt σ2 H2 fun b H3 =>
    if b = true then te σ2 H3 fun y H4 => ∃ (bb : Addr) (kk : List Int) (L : List (Addr × List Int)), y = .ref bb ∧ SqT K H4 bb (kk.map V.int) ∧ H4 D = some (SetTO P w D L) ∧ TL K H4 L ∧ L.length + 1 < 64 ∧ ∀ L', (kk ∈ L.map (·.2) → L' = L) → (kk ∉ L.map (·.2) → L'.Perm ((bb, kk) :: L)) → Nx (upd H4 D (SetTO P w D L')) else Nx H3)
theorem scT_core {pins : List (Addr × Obj)} {s : Shared} {σ : L2.St} {H : Hp} {Q : VK} {elt tg iter : Expr} {ifs : List Expr} {scope : Scope} {own : List (PySem.Str × Nat)} {pos pos' : Pos} {wi : TI} {g : TG} {tt : TT} {te : TE} {use : Option (Value → Sem Unit)} {Qf : Value → Shared → Prop}
    (hu : X.A.units + 64 < cLine) (hc : X.calm = true) (hN : X.N.Nodup) (I : Inv X pins σ H s) (hi : PI X tg iter wi) (ok : BlkOk X.N X.env.scope scope own)
    (hg : ∀ (s : Shared) (H : Hp) (C : Addr) (cl : List (PySem.Str × Addr)) (fp : List Addr), PG (X.blk s H scope (compEnvC scope cl C X.env) fp) tg g) (ht : ∀ (s : Shared) (H : Hp) (C : Addr) (cl : List (PySem.Str × Addr)) (fp : List Addr), PTs (X.blk s H scope (compEnvC scope cl C X.env) fp) ifs tt)
    (he : ∀ (s : Shared) (H : Hp) (C : Addr) (cl : List (PySem.Str × Addr)) (fp : List Addr), PE (X.blk s H scope (compEnvC scope cl C X.env) fp) elt te) (hs : ∀ x, foldedSetIterable iter X.env x = pure x)
    (h : tScT X.prog X.w X.K wi g tt te (own.map (·.2)) σ H Q)
    (hRR : ∀ D C s' m H', Inv X pins σ H' s' → Q (.ref D) H' → s'.heap.Ns C m → FpOk X pins H' C → compPost (model X.prog X.w) X.A X.xe use Qf (.ref D) C (.ok .next) s') :
    wpAny (model X.prog X.w) X.A (comprehension (.SetComp elt [⟨tg, iter, ifs, 0⟩] scope pos) scope X.env pos' (newSet (.type "set")) false (eval iter X.env) use) Qf X.xe s := by
  have fre : ∀ y ∈ scope.names, y.2 = .free → ∃ c, X.env.cells.lookup y.1 = some c := fun y hy e => by
    rcases ok.free y hy e with k | k
    · exact I.ok.has _ (.inl k)
    · exact I.ok.has _ (.inr k)
  refine wpAny_comprehension_free (use := use) rfl hs (closure_ok fre) ok.kind (fun y hy e => by rw [ok.uniq y hy, e])
    (thn (hi.run pins s σ H _ I h) fun xv s1 hx => thn hx fun itv s2 h2 => ?_)
  obtain ⟨it, fp, tt0, J, H2, e, Ia, T, z2, k2, q⟩ := h2
  subst e
  refine newSet_ok (newEnv_comp ?_)
  generalize eD : s2.heap.objs.size = D
  have nD : H2 D = none := Ia.hok.fresh (Nat.le_of_eq eD)
  obtain ⟨W, ⟨mm, ww⟩, trn⟩ := q D nD
  -- the new list
  generalize es3 : ({ s2 with heap := s2.heap.push { cls := .type "set", dict := none, data := .set #[] 0 (.fresh 0 0 (!X.w.params.followText "set-order")) } } : Shared) = s3
  have Ib : Inv X pins σ (upd H2 D (SetTO X.prog X.w D [])) s3 := by
    rw [← es3]
    refine Ia.laid (t' := s2.toks) (fun b o e => Heap.get?_push_of_some _ e) (Nat.le_of_eq eD) ?_
    rw [← eD]
    exact setTO_new (setTR_fresh (Heap.get?_push_size _ rfl)).t0
  have g3 : s3.heap = s2.heap.push { cls := .type "set", dict := none, data := .set #[] 0 (.fresh 0 0 (!X.w.params.followText "set-order")) } := by rw [← es3]
  have sz : ∀ b ∈ fp, b < s2.heap.objs.size := fun b hb => by
    obtain ⟨o, e, _⟩ := T.obj _ _ z2 b hb
    exact Heap.lt_size e
  have k3 : ∀ b ∈ fp, FpOk X pins (upd H2 D (SetTO X.prog X.w D [])) b ∧ b < s3.heap.objs.size := fun b hb => by
    have lt0 := sz b hb
    refine ⟨⟨?_, (k2 b hb).2⟩, by rw [g3, Heap.size_push]; exact Nat.lt_succ_of_lt lt0⟩
    rw [upd_ne (by rw [← eD]; exact Nat.ne_of_lt lt0)]
    exact (k2 b hb).1
  have z3 : tt0 0 s3.heap := T.keep _ _ _ z2 fun b _ o e => by rw [g3]; exact Heap.get?_push_of_some _ e
  have Ic := block_start Ib ok hN k3
  have qg := hg s3 (upd H2 D (SetTO X.prog X.w D [])) s3.heap.objs.size (cellsFrom (s3.heap.objs.size + 1) scope.names (cloFrom X.env.cells scope.names [])) fp
  have qt := ht s3 (upd H2 D (SetTO X.prog X.w D [])) s3.heap.objs.size (cellsFrom (s3.heap.objs.size + 1) scope.names (cloFrom X.env.cells scope.names [])) fp
  have qe := he s3 (upd H2 D (SetTO X.prog X.w D [])) s3.heap.objs.size (cellsFrom (s3.heap.objs.size + 1) scope.names (cloFrom X.env.cells scope.names [])) fp
  show codeAny _ _ (.compStart (.SetComp elt [⟨tg, iter, ifs, 0⟩] scope pos) 0 (.ref it) (.ref D) (compEnvC scope (cellsFrom (s3.heap.objs.size + 1) scope.names (cloFrom X.env.cells scope.names [])) s3.heap.objs.size X.env)) (compPost (model X.prog X.w) X.A X.xe use Qf (.ref D) s3.heap.objs.size) { s3 with heap := pushCells (s3.heap.push { cls := .type "dict", data := .dict #[] }) scope.names }
  have nf : ∀ b ∈ fp, (upd H2 D (SetTO X.prog X.w D [])) b = none := fun b hb => (k3 b hb).1.1
  generalize ece : compEnvC scope (cellsFrom (s3.heap.objs.size + 1) scope.names (cloFrom X.env.cells scope.names [])) s3.heap.objs.size X.env = ce at Ic qg qt qe ⊢
  have eL : ce.locals = s3.heap.objs.size := by subst ece; rfl
  generalize eH3 : upd H2 D (SetTO X.prog X.w D []) = H3 at Ib Ic qg qt qe ww nf k3
  generalize es4 : ({ s3 with heap := pushCells (s3.heap.push { cls := .type "dict", data := .dict #[] }) scope.names } : Shared) = s4 at Ic ⊢
  have z4 : tt0 0 s4.heap := T.keep _ _ _ z3 fun b _ o e => by rw [← es4]; exact pushCells_keeps _ _ _ _ (Heap.get?_push_of_some _ e)
  have stt : ∀ {σ' : L2.St} {H' : Hp} {s' : Shared}, Inv (X.blk s3 H3 scope ce fp) [] σ' H' s' → (∀ b ∈ fp, H' b = none) → ∀ b ∈ fp, FpOk (X.blk s3 H3 scope ce fp) [] H' b := fun {σ' H' s'} I' hn b hb =>
    ⟨hn b hb, (I'.ok.exf b hb).1, I'.ok.exfs b hb, .inl hb, fun x c e => (I'.ok.exf b hb).2 x c e, fun p hp => absurd (show p ∈ ([] : List (Addr × Obj)) ++ [] from hp) (by simp)⟩
  have lp : codeAny (model X.prog X.w) X.A (.compLoop (.SetComp elt [⟨tg, iter, ifs, 0⟩] scope pos) 0 (.ref it) (.ref D) ce) (compPost (model X.prog X.w) X.A X.xe use Qf (.ref D) s3.heap.objs.size) s4 := by
    refine compLoopS_any (fun n s' => ∃ i H', Inv (X.blk s3 H3 scope ce fp) [] (wipe σ (own.map (·.2))) H' s' ∧ tt0 i s'.heap ∧ (∀ b ∈ fp, H' b = none) ∧ W i n H') ?_ mm ⟨0, H3, Ic, z4, nf, ww⟩
    rintro n s5 ⟨i, H5, Id, z5, m5, v5⟩
    rcases trn i n H5 v5 with ⟨stop, qq⟩ | ⟨go, Nx, hNx, step⟩
    · have tdn := T.done (X.blk s3 H3 scope ce fp) rfl rfl rfl hc i [] s5 _ H5 (fun _ _ => False) Id (stt Id m5) z5 stop
      refine thnF tdn fun r s6 ⟨hr, Ie⟩ => ?_
      subst hr
      -- back in the def's context
      have If : Inv X pins σ H5 s6 := Ib.call' (ch := fp) Ie.os Ie.base Ie.hok Ie.bare fun b hb => ⟨(k3 b hb).1.2.2.2.1, (k3 b hb).1.2.1, (k3 b hb).1.2.2.2.2.1, (k3 b hb).1.2.2.2.2.2⟩
      have nCl : H5 s3.heap.objs.size = none := by
        have z : H5 ce.locals = none := Ie.free
        rw [eL] at z
        exact z
      obtain ⟨m, hn, _⟩ := Ie.loc
      have hn : s6.heap.Ns ce.locals m := hn
      rw [eL] at hn
      exact hRR D s3.heap.objs.size s6 m H5 If qq hn (Ib.fpOk (Nat.le_refl _) nCl)
    · have tin := T.item (X.blk s3 H3 scope ce fp) rfl rfl rfl hc i [] s5 _ H5 (fun _ _ => False) Id (stt Id m5) z5 go
      refine thnF tin fun r s6 ⟨u, hr, h6⟩ => ?_
      subst hr
      refine thnF h6 fun _ s7 ⟨x, H7, If, r7, y7, z7, n7⟩ => ?_
      have Ig := If.pinned (stt If n7) (T.obj _ _ z7)
      refine thnF (qg.run _ s7 _ H7 x u _ Ig r7 (step x H7 y7)) fun _ s8 ⟨σ8, H8, Ih, hw8, q8⟩ => ?_
      refine thnF (qt.run _ s8 σ8 H8 _ Ih q8) fun b s9 ⟨H9, Ii, q9⟩ => ?_
      -- the turn's end
      have ends : ∀ {s' : Shared} {H' : Hp}, Inv (X.blk s3 H3 scope ce fp) ([] ++ pinsAt fp s7.heap) σ8 H' s' → Nx H' → ∃ m, m < n ∧ ∃ i H', Inv (X.blk s3 H3 scope ce fp) [] (wipe σ (own.map (·.2))) H' s' ∧ tt0 i s'.heap ∧ (∀ b ∈ fp, H' b = none) ∧ W i m H' := fun {s' H'} I' nx => by
        obtain ⟨m', hm, w'⟩ := hNx H' nx
        have pin2 : ∀ b ∈ fp, ∀ o, s7.heap.get? b = some o → s'.heap.get? b = some o ∧ H' b = none := fun b hb o e =>
          let z := I'.pin (b, o) (List.mem_append_right _ (List.mem_append_right _ (mem_pinsAt hb e)))
          ⟨z.1, z.2.1⟩
        have hl : (wipe σ (own.map (·.2))).length = σ8.length := by rw [← hw8, wipe_length]
        refine ⟨m', hm, i + 1, H', (I'.unpinned (pins := [])).weak hl (fun j v e => ?_), T.keep _ _ _ z7 fun b hb o e => (pin2 b hb o e).1, fun b hb => ?_, w'⟩
        · rw [← hw8] at e
          exact (wipe_some e).1
        · obtain ⟨o, e, _⟩ := T.obj _ _ z7 b hb
          exact (pin2 b hb o e).2
      cases b with
      | false =>
        simp only [Bool.false_eq_true, if_false] at q9 ⊢
        exact ends Ii q9
      | true =>
        simp only [if_true] at q9 ⊢
        refine thnF (qe.run _ s9 σ8 H9 _ Ii q9) fun z s10 ⟨yv, H10, Ij, r10, bb, kk, L0, ey, hb10, hD10, hL10, hf10, nx⟩ => ?_
        subst ey
        cases (show z = Value.ref bb from r10)
        exact addT_ok (X := X.blk s3 H3 scope ce fp) Ij hu hD10 hL10 hb10 hf10 fun s11 L1 c1 c2 Ik => ends Ik (nx L1 c1 c2)
  exact codeAny_compStart_set lp (T.self X.A 0 _ _ _ z4 lp)
theorem pe_scT {elt tg iter : Expr} {ifs : List Expr} {scope : Scope} {own : List (PySem.Str × Nat)} {pos : Pos} {wi : TI} {g : TG} {tt : TT} {te : TE} (hu : X.A.units + 64 < cLine) (hc : X.calm = true) (hN : X.N.Nodup) (hi : PI X tg iter wi) (ok : BlkOk X.N X.env.scope scope own)
    (hg : ∀ (s : Shared) (H : Hp) (C : Addr) (cl : List (PySem.Str × Addr)) (fp : List Addr), PG (X.blk s H scope (compEnvC scope cl C X.env) fp) tg g) (ht : ∀ (s : Shared) (H : Hp) (C : Addr) (cl : List (PySem.Str × Addr)) (fp : List Addr), PTs (X.blk s H scope (compEnvC scope cl C X.env) fp) ifs tt)
    (he : ∀ (s : Shared) (H : Hp) (C : Addr) (cl : List (PySem.Str × Addr)) (fp : List Addr), PE (X.blk s H scope (compEnvC scope cl C X.env) fp) elt te) (hs : ∀ x, foldedSetIterable iter X.env x = pure x := by intro _; rfl) :
    PE X (.SetComp elt [⟨tg, iter, ifs, 0⟩] scope pos) (tScT X.prog X.w X.K wi g tt te (own.map (·.2))) := by
  refine ⟨fun pins s σ H Q I h => ?_⟩
  rw [eval_SetComp]
  refine scT_core hu hc hN I hi ok hg ht he hs h fun D C s' m H' I' q hn f => ⟨m, hn, fun h'' sb => ?_⟩
  obtain ⟨f0, f1, k2, k3, f4, f5⟩ := f
  exact ⟨.ref D, H', I'.turned (t' := s'.toks) (fun b o hb e => (sb.2 b hb).trans e) f0 f1 k3 f4 f5, rfl, q⟩
end
end K09

/-! A set comprehension with two for: its turns. -/
namespace K09
open PySem PySem.Spec PyProof.Rows L2 PpSet
abbrev sc2 (elt t0 i0 t1 i1 : Expr) (ifs0 ifs1 : List Expr) (scope : Scope) (pos : Pos) : Expr := .SetComp elt [⟨t0, i0, ifs0, 0⟩, ⟨t1, i1, ifs1, 0⟩] scope pos
theorem turnS2_in (elt t0 i0 t1 i1 : Expr) (ifs0 ifs1 : List Expr) (scope : Scope) (pos : Pos) (it acc : Value) (env : Env) :
    compTurn (sc2 elt t0 i0 t1 i1 ifs0 ifs1 scope pos) 1 it acc env = (do
      standAt i1.pos
      match ← pyNext it with
      | none => pure (Fin.done Flow.next)
      | some v => do
        letOwnedTupleGo t1 it v
        assign t1 env v
        let ok ← forIn ifs1 true fun c r => if r = true then do let ok ← isTrue c env (eval c env); pure (ForInStep.yield ok) else pure (ForInStep.yield r)
        if ok = true then (do
          let v ← eval elt env
          standAt elt.pos
          let _ ← call (.builtin "set.add") [acc, v]
          pure ()) >>= fun _ => again (.compLoop (sc2 elt t0 i0 t1 i1 ifs0 ifs1 scope pos) 1 it acc env)
        else again (.compLoop (sc2 elt t0 i0 t1 i1 ifs0 ifs1 scope pos) 1 it acc env)) := rfl
theorem turnS2_out (elt t0 i0 t1 i1 : Expr) (ifs0 ifs1 : List Expr) (scope : Scope) (pos : Pos) (it acc : Value) (env : Env) :
    compTurn (sc2 elt t0 i0 t1 i1 ifs0 ifs1 scope pos) 0 it acc env = (do
      standAt i0.pos
      match ← pyNext it with
      | none => pure (Fin.done Flow.next)
      | some v => do
        letOwnedTupleGo t0 it v
        assign t0 env v
        let mut ok := true
        for c in ifs0 do
          if ok then ok ← isTrue c env (eval c env)
        if ok then
          let x ← eval i1 env
          standAt i1.pos
          let x ← foldedSetIterable i1 env x
          let it1 ← holding [x] (pyIter x)
          let _ ← runOwn (.compStart (sc2 elt t0 i0 t1 i1 ifs0 ifs1 scope pos) 1 it1 acc env) env
        again (.compLoop (sc2 elt t0 i0 t1 i1 ifs0 ifs1 scope pos) 0 it acc env)) := rfl
section
variable {prog : Program} {w : World} {A : Around} {R : Result → Shared → Prop} {s : Shared} {elt t0 i0 t1 i1 : Expr} {ifs0 ifs1 : List Expr} {scope : Scope} {pos : Pos} {it acc : Value} {env : Env}
theorem loopS2_in (I : Nat → Shared → Prop)
    (turn : ∀ (n : Nat) (s : Shared), I n s → wpAny (model prog w) A (pyNext it) (fun r s₁ => match r with
      | none => R (.ok .next) s₁
      | some v => wpAny (model prog w) A (letOwnedTupleGo t1 it v) (fun _ s₁' => wpAny (model prog w) A (assign t1 env v) (fun _ s₂ => wpAny (model prog w) A
          (forIn ifs1 true fun c r => if r = true then do let ok ← isTrue c env (eval c env); pure (ForInStep.yield ok) else pure (ForInStep.yield r))
          (fun ok s₃ => if ok = true then wpAny (model prog w) A (eval elt env) (fun x s₄ => wpAny (model prog w) A (call (.builtin "set.add") [acc, x]) (fun _ s₅ => ∃ m, m < n ∧ I m s₅) (notedBy (model prog w) A env fun e s' => R (.error e) s') s₄) (notedBy (model prog w) A env fun e s' => R (.error e) s') s₃
            else ∃ m, m < n ∧ I m s₃) (notedBy (model prog w) A env fun e s' => R (.error e) s') s₂) (notedBy (model prog w) A env fun e s' => R (.error e) s') s₁') (notedBy (model prog w) A env fun e s' => R (.error e) s') s₁) (notedBy (model prog w) A env fun e s' => R (.error e) s') s)
    (n : Nat) (h : I n s) : codeAny (model prog w) A (.compLoop (sc2 elt t0 i0 t1 i1 ifs0 ifs1 scope pos) 1 it acc env) R s := by
  refine codeAny_loop rfl I (fun n s hI => ?_) n h
  refine wpAny_noted ?_
  rw [turnS2_in]
  refine wpAny_bind (wpAny_standAt (wpAny_bind (wpAny_mono (turn n s hI) (fun r s₁ h₁ => ?_) fun _ _ h => h)))
  cases r with
  | none => exact wpAny_pure h₁
  | some v =>
    refine wpAny_bind (wpAny_mono h₁ (fun _ s2 h2 => ?_) fun _ _ h => h)
    refine wpAny_bind (wpAny_mono h2 (fun _ s3 h3 => ?_) fun _ _ h => h)
    refine wpAny_bind (wpAny_mono h3 (fun ok s4 h4 => ?_) fun _ _ h => h)
    cases ok with
    | false => exact wpAny_pure ⟨rfl, h4⟩
    | true =>
      refine wpAny_bind (wpAny_bind (wpAny_mono h4 (fun x s5 h5 => ?_) fun _ _ h => h))
      refine wpAny_bind (wpAny_standAt (wpAny_bind (wpAny_mono h5 (fun x s6 h6 => ?_) fun _ _ h => h)))
      exact wpAny_pure (wpAny_pure ⟨rfl, h6⟩)
theorem loopS2_out (hs : ∀ x, foldedSetIterable i1 env x = pure x) (I : Nat → Shared → Prop)
    (turn : ∀ (n : Nat) (s : Shared), I n s → wpAny (model prog w) A (pyNext it) (fun r s₁ => match r with
      | none => R (.ok .next) s₁
      | some v => wpAny (model prog w) A (letOwnedTupleGo t0 it v) (fun _ s₁' => wpAny (model prog w) A (assign t0 env v) (fun _ s₂ => wpAny (model prog w) A
          (forIn ifs0 true fun c r => if r = true then do let ok ← isTrue c env (eval c env); pure (ForInStep.yield ok) else pure (ForInStep.yield r))
          (fun ok s₃ => if ok = true then wpAny (model prog w) A (eval i1 env) (fun x s₄ => wpAny (model prog w) A (pyIter x) (fun it1 s₅ =>
              codeAny (model prog w) A (.compStart (sc2 elt t0 i0 t1 i1 ifs0 ifs1 scope pos) 1 it1 acc env) (fun r s' => match r with | .ok _ => ∃ m, m < n ∧ I m s' | .error _ => False) s₅) (notedBy (model prog w) A env fun e s' => R (.error e) s') s₄) (notedBy (model prog w) A env fun e s' => R (.error e) s') s₃
            else ∃ m, m < n ∧ I m s₃) (notedBy (model prog w) A env fun e s' => R (.error e) s') s₂) (notedBy (model prog w) A env fun e s' => R (.error e) s') s₁') (notedBy (model prog w) A env fun e s' => R (.error e) s') s₁) (notedBy (model prog w) A env fun e s' => R (.error e) s') s)
    (n : Nat) (h : I n s) : codeAny (model prog w) A (.compLoop (sc2 elt t0 i0 t1 i1 ifs0 ifs1 scope pos) 0 it acc env) R s := by
  refine codeAny_loop rfl I (fun n s hI => ?_) n h
  refine wpAny_noted ?_
  rw [turnS2_out]
  refine wpAny_bind (wpAny_standAt (wpAny_bind (wpAny_mono (turn n s hI) (fun r s₁ h₁ => ?_) fun _ _ h => h)))
  cases r with
  | none => exact wpAny_pure h₁
  | some v =>
    refine wpAny_bind (wpAny_mono h₁ (fun _ s2 h2 => ?_) fun _ _ h => h)
    refine wpAny_bind (wpAny_mono h2 (fun _ s3 h3 => ?_) fun _ _ h => h)
    refine wpAny_bind (wpAny_mono h3 (fun ok s4 h4 => ?_) fun _ _ h => h)
    cases ok with
    | false => exact wpAny_pure ⟨rfl, h4⟩
    | true =>
      refine wpAny_bind (wpAny_mono h4 (fun x s5 h5 => ?_) fun _ _ h => h)
      refine wpAny_bind (wpAny_standAt ?_)
      rw [hs]
      refine wpAny_bind (wpAny_pure ?_)
      refine wpAny_bind (wpAny_holding (wpAny_mono h5 (fun it1 s6 h6 => ?_) fun _ _ h => h))
      refine wpAny_bind (wpAny_runOwn (codeAny_mono h6 fun r s7 h7 => ?_))
      cases r with
      | ok a => exact wpAny_pure ⟨rfl, h7⟩
      | error e => exact False.elim h7
theorem startS2_ok (h0 : codeAny (model prog w) A (.compLoop (sc2 elt t0 i0 t1 i1 ifs0 ifs1 scope pos) 1 it acc env) R s)
    (h : wpAny (model prog w) A (pyIter it) (fun it' s' => codeAny (model prog w) A (.compLoop (sc2 elt t0 i0 t1 i1 ifs0 ifs1 scope pos) 1 it' acc env) R s') (notedBy (model prog w) A env fun e s' => R (.error e) s') s) :
    codeAny (model prog w) A (.compStart (sc2 elt t0 i0 t1 i1 ifs0 ifs1 scope pos) 1 it acc env) R s := by
  refine codeAny_of_tree ?_
  refine wpAny_notedAt ?_
  refine wpAny_bind (wpAny_askSetting (wpAny_ite ?_))
  split
  · exact wpAny_bind (wpAny_pure (wpAny_pure ⟨rfl, h0⟩))
  · refine wpAny_bind (wpAny_rule (wpAny_bind (wpAny_standAt (wpAny_bind (wpAny_mono h (fun it' s' h' => wpAny_pure ⟨rfl, h'⟩) fun _ _ z => z)))))
theorem startS2_0 (h0 : codeAny (model prog w) A (.compLoop (sc2 elt t0 i0 t1 i1 ifs0 ifs1 scope pos) 0 it acc env) R s)
    (h : wpAny (model prog w) A (pyIter it) (fun it' s' => codeAny (model prog w) A (.compLoop (sc2 elt t0 i0 t1 i1 ifs0 ifs1 scope pos) 0 it' acc env) R s') (notedBy (model prog w) A env fun e s' => R (.error e) s') s) :
    codeAny (model prog w) A (.compStart (sc2 elt t0 i0 t1 i1 ifs0 ifs1 scope pos) 0 it acc env) R s := by
  refine codeAny_of_tree ?_
  refine wpAny_notedAt ?_
  refine wpAny_bind (wpAny_askSetting (wpAny_ite ?_))
  split
  · exact wpAny_bind (wpAny_pure (wpAny_pure ⟨rfl, h0⟩))
  · refine wpAny_bind (wpAny_rule (wpAny_bind (wpAny_standAt (wpAny_bind (wpAny_mono h (fun it' s' h' => wpAny_pure ⟨rfl, h'⟩) fun _ _ z => z)))))
end
end K09

/-! {elt for .. in .. for .. in ..}, elt a tuple of ints. -/
namespace K09
open PySem PySem.Spec PyProof.Rows L2 PpSet
theorem wipe_keep {i : Nat} {x : V} : ∀ {vs : List Nat} {σ : L2.St}, σ[i]? = some (some x) → i ∉ vs → (wipe σ vs)[i]? = some (some x)
  | [], σ, h, _ => h
  | v :: vs, σ, h, hn => by
    have hv : i ≠ v := fun e => hn (by rw [e]; exact List.mem_cons_self)
    have hr : i ∉ vs := fun e => hn (List.mem_cons_of_mem _ e)
    show ((wipe σ vs).set v none)[i]? = _
    rw [List.getElem?_set_ne (Ne.symm hv)]
    exact wipe_keep h hr
section
variable {X : Cx}
def tScT2 (P : Program) (w : World) (K : PySem.W.Frag) (wi : TI) (g : TG) (tt : TT) (wi1 : TI) (g1 : TG) (tt1 : TT) (te : TE) (vs vs1 : List Nat) : TE := fun σ H Q => wi σ H fun J H1 => ∀ D, H1 D = none → ∃ W : Nat → Nat → Hp → Prop, (∃ m, W 0 m (upd H1 D (SetTO P w D []))) ∧ ∀ i m H, W i m H →
  (J.stop i H ∧ Q (.ref D) H) ∨ (J.go i H ∧ ∃ Nx : Hp → Prop, (∀ H', Nx H' → ∃ m', m' < m ∧ W (i + 1) m' H') ∧ ∀ x H', J.yld i H x H' → g x (wipe σ vs) H' fun σ2 H2 => wipe σ2 vs = wipe σ vs ∧ tt σ2 H2 fun b H3 =>
    if b = true then wi1 σ2 H3 fun J1 H4 => ∃ W1 : Nat → Nat → Hp → Prop, (∃ m, W1 0 m H4) ∧ ∀ j k H, W1 j k H →
      (J1.stop j H ∧ Nx H) ∨ (J1.go j H ∧ ∃ Nx1 : Hp → Prop, (∀ H', Nx1 H' → ∃ k', k' < k ∧ W1 (j + 1) k' H') ∧ ∀ x H', J1.yld j H x H' → g1 x (wipe σ2 vs1) H' fun σ3 H5 => wipe σ3 vs1 = wipe σ2 vs1 ∧ tt1 σ3 H5 fun b H6 =>
        if b = true then te σ3 H6 fun y H7 => ∃ (bb : Addr) (kk : List Int) (L : List (Addr × List Int)), y = .ref bb ∧ SqT K H7 bb (kk.map V.int) ∧ H7 D = some (SetTO P w D L) ∧ TL K H7 L ∧ L.length + 1 < 64 ∧ ∀ L', (kk ∈ L.map (·.2) → L' = L) → (kk ∉ L.map (·.2) → L'.Perm ((bb, kk) :: L)) → Nx1 (upd H7 D (SetTO P w D L')) else Nx1 H6)
    else Nx H3)
theorem scT2_core {pins : List (Addr × Obj)} {s : Shared} {σ : L2.St} {H : Hp} {Q : VK} {elt tg iter tg1 iter1 : Expr} {ifs ifs1 : List Expr} {scope : Scope} {own : List (PySem.Str × Nat)} {vs1 : List Nat} {pos pos' : Pos} {wi wi1 : TI} {g g1 : TG} {tt tt1 : TT} {te : TE} {use : Option (Value → Sem Unit)} {Qf : Value → Shared → Prop}
    (hu : X.A.units + 64 < cLine) (hc : X.calm = true) (hN : X.N.Nodup) (I : Inv X pins σ H s) (hi : PI X tg iter wi) (ok : BlkOk X.N X.env.scope scope own) (hv : ∀ i ∈ vs1, i ∈ own.map (·.2))
    (hg : ∀ (s : Shared) (H : Hp) (C : Addr) (cl : List (PySem.Str × Addr)) (fp : List Addr), PG (X.blk s H scope (compEnvC scope cl C X.env) fp) tg g) (ht : ∀ (s : Shared) (H : Hp) (C : Addr) (cl : List (PySem.Str × Addr)) (fp : List Addr), PTs (X.blk s H scope (compEnvC scope cl C X.env) fp) ifs tt)
    (hi1 : ∀ (s : Shared) (H : Hp) (C : Addr) (cl : List (PySem.Str × Addr)) (fp : List Addr), PI (X.blk s H scope (compEnvC scope cl C X.env) fp) tg1 iter1 wi1)
    (hg1 : ∀ (s : Shared) (H : Hp) (C : Addr) (cl : List (PySem.Str × Addr)) (fp : List Addr), PG (X.blk s H scope (compEnvC scope cl C X.env) fp) tg1 g1) (ht1 : ∀ (s : Shared) (H : Hp) (C : Addr) (cl : List (PySem.Str × Addr)) (fp : List Addr), PTs (X.blk s H scope (compEnvC scope cl C X.env) fp) ifs1 tt1)
    (he : ∀ (s : Shared) (H : Hp) (C : Addr) (cl : List (PySem.Str × Addr)) (fp : List Addr), PE (X.blk s H scope (compEnvC scope cl C X.env) fp) elt te) (hs : ∀ x, foldedSetIterable iter X.env x = pure x) (hs1 : ∀ env x, foldedSetIterable iter1 env x = pure x)
    (h : tScT2 X.prog X.w X.K wi g tt wi1 g1 tt1 te (own.map (·.2)) vs1 σ H Q)
    (hRR : ∀ D C s' m H', Inv X pins σ H' s' → Q (.ref D) H' → s'.heap.Ns C m → FpOk X pins H' C → compPost (model X.prog X.w) X.A X.xe use Qf (.ref D) C (.ok .next) s') :
    wpAny (model X.prog X.w) X.A (comprehension (sc2 elt tg iter tg1 iter1 ifs ifs1 scope pos) scope X.env pos' (newSet (.type "set")) false (eval iter X.env) use) Qf X.xe s := by
  have fre : ∀ y ∈ scope.names, y.2 = .free → ∃ c, X.env.cells.lookup y.1 = some c := fun y hy e => by
    rcases ok.free y hy e with k | k
    · exact I.ok.has _ (.inl k)
    · exact I.ok.has _ (.inr k)
  refine wpAny_comprehension_free (use := use) rfl hs (closure_ok fre) ok.kind (fun y hy e => by rw [ok.uniq y hy, e])
    (thn (hi.run pins s σ H _ I h) fun xv s1 hx => thn hx fun itv s2 h2 => ?_)
  obtain ⟨it, fp, tt0, J, H2, e, Ia, T, z2, k2, q⟩ := h2
  subst e
  refine newSet_ok (newEnv_comp ?_)
  generalize eD : s2.heap.objs.size = D
  have nD : H2 D = none := Ia.hok.fresh (Nat.le_of_eq eD)
  obtain ⟨W, ⟨mm, ww⟩, trn⟩ := q D nD
  generalize es3 : ({ s2 with heap := s2.heap.push { cls := .type "set", dict := none, data := .set #[] 0 (.fresh 0 0 (!X.w.params.followText "set-order")) } } : Shared) = s3
  have Ib : Inv X pins σ (upd H2 D (SetTO X.prog X.w D [])) s3 := by
    rw [← es3]
    refine Ia.laid (t' := s2.toks) (fun b o e => Heap.get?_push_of_some _ e) (Nat.le_of_eq eD) ?_
    rw [← eD]
    exact setTO_new (setTR_fresh (Heap.get?_push_size _ rfl)).t0
  have g3 : s3.heap = s2.heap.push { cls := .type "set", dict := none, data := .set #[] 0 (.fresh 0 0 (!X.w.params.followText "set-order")) } := by rw [← es3]
  have sz : ∀ b ∈ fp, b < s2.heap.objs.size := fun b hb => by
    obtain ⟨o, e, _⟩ := T.obj _ _ z2 b hb
    exact Heap.lt_size e
  have k3 : ∀ b ∈ fp, FpOk X pins (upd H2 D (SetTO X.prog X.w D [])) b ∧ b < s3.heap.objs.size := fun b hb => by
    have lt0 := sz b hb
    refine ⟨⟨?_, (k2 b hb).2⟩, by rw [g3, Heap.size_push]; exact Nat.lt_succ_of_lt lt0⟩
    rw [upd_ne (by rw [← eD]; exact Nat.ne_of_lt lt0)]
    exact (k2 b hb).1
  have z3 : tt0 0 s3.heap := T.keep _ _ _ z2 fun b _ o e => by rw [g3]; exact Heap.get?_push_of_some _ e
  have Ic := block_start Ib ok hN k3
  have qg := hg s3 (upd H2 D (SetTO X.prog X.w D [])) s3.heap.objs.size (cellsFrom (s3.heap.objs.size + 1) scope.names (cloFrom X.env.cells scope.names [])) fp
  have qt := ht s3 (upd H2 D (SetTO X.prog X.w D [])) s3.heap.objs.size (cellsFrom (s3.heap.objs.size + 1) scope.names (cloFrom X.env.cells scope.names [])) fp
  have qi1 := hi1 s3 (upd H2 D (SetTO X.prog X.w D [])) s3.heap.objs.size (cellsFrom (s3.heap.objs.size + 1) scope.names (cloFrom X.env.cells scope.names [])) fp
  have qg1 := hg1 s3 (upd H2 D (SetTO X.prog X.w D [])) s3.heap.objs.size (cellsFrom (s3.heap.objs.size + 1) scope.names (cloFrom X.env.cells scope.names [])) fp
  have qt1 := ht1 s3 (upd H2 D (SetTO X.prog X.w D [])) s3.heap.objs.size (cellsFrom (s3.heap.objs.size + 1) scope.names (cloFrom X.env.cells scope.names [])) fp
  have qe := he s3 (upd H2 D (SetTO X.prog X.w D [])) s3.heap.objs.size (cellsFrom (s3.heap.objs.size + 1) scope.names (cloFrom X.env.cells scope.names [])) fp
  show codeAny _ _ (.compStart (sc2 elt tg iter tg1 iter1 ifs ifs1 scope pos) 0 (.ref it) (.ref D) (compEnvC scope (cellsFrom (s3.heap.objs.size + 1) scope.names (cloFrom X.env.cells scope.names [])) s3.heap.objs.size X.env)) (compPost (model X.prog X.w) X.A X.xe use Qf (.ref D) s3.heap.objs.size) { s3 with heap := pushCells (s3.heap.push { cls := .type "dict", data := .dict #[] }) scope.names }
  have nf : ∀ b ∈ fp, (upd H2 D (SetTO X.prog X.w D [])) b = none := fun b hb => (k3 b hb).1.1
  generalize ece : compEnvC scope (cellsFrom (s3.heap.objs.size + 1) scope.names (cloFrom X.env.cells scope.names [])) s3.heap.objs.size X.env = ce at Ic qg qt qi1 qg1 qt1 qe ⊢
  have eL : ce.locals = s3.heap.objs.size := by subst ece; rfl
  generalize eH3 : upd H2 D (SetTO X.prog X.w D []) = H3 at Ib Ic qg qt qi1 qg1 qt1 qe ww nf k3
  generalize es4 : ({ s3 with heap := pushCells (s3.heap.push { cls := .type "dict", data := .dict #[] }) scope.names } : Shared) = s4 at Ic ⊢
  have z4 : tt0 0 s4.heap := T.keep _ _ _ z3 fun b _ o e => by rw [← es4]; exact pushCells_keeps _ _ _ _ (Heap.get?_push_of_some _ e)
  have stt : ∀ {σ' : L2.St} {H' : Hp} {s' : Shared}, Inv (X.blk s3 H3 scope ce fp) [] σ' H' s' → (∀ b ∈ fp, H' b = none) → ∀ b ∈ fp, FpOk (X.blk s3 H3 scope ce fp) [] H' b := fun {σ' H' s'} I' hn b hb =>
    ⟨hn b hb, (I'.ok.exf b hb).1, I'.ok.exfs b hb, .inl hb, fun x c e => (I'.ok.exf b hb).2 x c e, fun p hp => absurd (show p ∈ ([] : List (Addr × Obj)) ++ [] from hp) (by simp)⟩
  have lp : codeAny (model X.prog X.w) X.A (.compLoop (sc2 elt tg iter tg1 iter1 ifs ifs1 scope pos) 0 (.ref it) (.ref D) ce) (compPost (model X.prog X.w) X.A X.xe use Qf (.ref D) s3.heap.objs.size) s4 := by
    refine loopS2_out (hs1 ce) (fun n s' => ∃ i H', Inv (X.blk s3 H3 scope ce fp) [] (wipe σ (own.map (·.2))) H' s' ∧ tt0 i s'.heap ∧ (∀ b ∈ fp, H' b = none) ∧ W i n H') ?_ mm ⟨0, H3, Ic, z4, nf, ww⟩
    rintro n s5 ⟨i, H5, Id, z5, m5, v5⟩
    rcases trn i n H5 v5 with ⟨stop, qq⟩ | ⟨go, Nx, hNx, step⟩
    · have tdn := T.done (X.blk s3 H3 scope ce fp) rfl rfl rfl hc i [] s5 _ H5 (fun _ _ => False) Id (stt Id m5) z5 stop
      refine thnF tdn fun r s6 ⟨hr, Ie⟩ => ?_
      subst hr
      have If : Inv X pins σ H5 s6 := Ib.call' (ch := fp) Ie.os Ie.base Ie.hok Ie.bare fun b hb => ⟨(k3 b hb).1.2.2.2.1, (k3 b hb).1.2.1, (k3 b hb).1.2.2.2.2.1, (k3 b hb).1.2.2.2.2.2⟩
      have nCl : H5 s3.heap.objs.size = none := by
        have z : H5 ce.locals = none := Ie.free
        rw [eL] at z
        exact z
      obtain ⟨m, hn, _⟩ := Ie.loc
      have hn : s6.heap.Ns ce.locals m := hn
      rw [eL] at hn
      exact hRR D s3.heap.objs.size s6 m H5 If qq hn (Ib.fpOk (Nat.le_refl _) nCl)
    · have tin := T.item (X.blk s3 H3 scope ce fp) rfl rfl rfl hc i [] s5 _ H5 (fun _ _ => False) Id (stt Id m5) z5 go
      refine thnF tin fun r s6 ⟨u, hr, h6⟩ => ?_
      subst hr
      refine thnF h6 fun _ s7 ⟨x, H7, If, r7, y7, z7, n7⟩ => ?_
      have Ig := If.pinned (stt If n7) (T.obj _ _ z7)
      refine thnF (qg.run _ s7 _ H7 x u _ Ig r7 (step x H7 y7)) fun _ s8 ⟨σ8, H8, Ih, hw8, q8⟩ => ?_
      refine thnF (qt.run _ s8 σ8 H8 _ Ih q8) fun b s9 ⟨H9, Ii, q9⟩ => ?_
      -- the turn's end
      have ends : ∀ {s' : Shared} {H' : Hp} {σ' : L2.St}, Inv (X.blk s3 H3 scope ce fp) ([] ++ pinsAt fp s7.heap) σ' H' s' → (wipe σ (own.map (·.2))).length = σ'.length → (∀ (j : Nat) v, (wipe σ (own.map (·.2)))[j]? = some (some v) → σ'[j]? = some (some v)) → Nx H' → ∃ m, m < n ∧ ∃ i H', Inv (X.blk s3 H3 scope ce fp) [] (wipe σ (own.map (·.2))) H' s' ∧ tt0 i s'.heap ∧ (∀ b ∈ fp, H' b = none) ∧ W i m H' := fun {s' H' σ'} I' hl hw nx => by
        obtain ⟨m', hm, w'⟩ := hNx H' nx
        have pin2 : ∀ b ∈ fp, ∀ o, s7.heap.get? b = some o → s'.heap.get? b = some o ∧ H' b = none := fun b hb o e =>
          let z := I'.pin (b, o) (List.mem_append_right _ (List.mem_append_right _ (mem_pinsAt hb e)))
          ⟨z.1, z.2.1⟩
        refine ⟨m', hm, i + 1, H', (I'.unpinned (pins := [])).weak hl hw, T.keep _ _ _ z7 fun b hb o e => (pin2 b hb o e).1, fun b hb => ?_, w'⟩
        obtain ⟨o, e, _⟩ := T.obj _ _ z7 b hb
        exact (pin2 b hb o e).2
      have hl8 : (wipe σ (own.map (·.2))).length = σ8.length := by rw [← hw8, wipe_length]
      cases b with
      | false =>
        simp only [Bool.false_eq_true, if_false] at q9 ⊢
        exact ends Ii hl8 (fun j v e => by rw [← hw8] at e; exact (wipe_some e).1) q9
      | true =>
        simp only [if_true] at q9 ⊢
        generalize ([] ++ pinsAt fp s7.heap : List (Addr × Obj)) = pinO at Ii ends
        refine thnF (qi1.run pinO s9 σ8 H9 _ Ii q9) fun xv s10 hx1 => thnF hx1 fun itv s11 h2 => ?_
        obtain ⟨it1, fp1, tq, J1, H10, e1, Ia1, T1, z10, k10, q10⟩ := h2
        subst e1
        obtain ⟨W1, ⟨mm1, ww1⟩, trn1⟩ := q10
        have stt1 : ∀ {H' : Hp}, (∀ b ∈ fp1, H' b = none) → ∀ b ∈ fp1, FpOk (X.blk s3 H3 scope ce fp) pinO H' b := fun hn b hb => ⟨hn b hb, (k10 b hb).2⟩
        have lpI : codeAny (model X.prog X.w) X.A (.compLoop (sc2 elt tg iter tg1 iter1 ifs ifs1 scope pos) 1 (.ref it1) (.ref D) ce) (fun r s' => match r with | .ok _ => ∃ m, m < n ∧ ∃ i H', Inv (X.blk s3 H3 scope ce fp) [] (wipe σ (own.map (·.2))) H' s' ∧ tt0 i s'.heap ∧ (∀ b ∈ fp, H' b = none) ∧ W i m H' | .error _ => False) s11 := by
          refine loopS2_in (fun k s' => ∃ j H', Inv (X.blk s3 H3 scope ce fp) pinO (wipe σ8 vs1) H' s' ∧ tq j s'.heap ∧ (∀ b ∈ fp1, H' b = none) ∧ W1 j k H') ?_ mm1 ⟨0, H10, Ia1.weak (by rw [wipe_length]) (fun j v e => (wipe_some e).1), z10, fun b hb => (k10 b hb).1, ww1⟩
          rintro kk0 s12 ⟨j, H11, Ij, z11, m11, v11⟩
          rcases trn1 j kk0 H11 v11 with ⟨stop1, qq1⟩ | ⟨go1, Nx1, hNx1, step1⟩
          · have tdn := T1.done (X.blk s3 H3 scope ce fp) rfl rfl rfl hc j pinO s12 _ H11 (fun _ _ => False) Ij (stt1 m11) z11 stop1
            refine thnF tdn fun r s13 ⟨hr, Ik⟩ => ?_
            subst hr
            refine ends Ik (by rw [hl8, wipe_length]) (fun j v e => ?_) qq1
            rw [← hw8] at e
            have e2 := wipe_some e
            exact wipe_keep e2.1 fun z => e2.2 (hv _ z)
          · have tin1 := T1.item (X.blk s3 H3 scope ce fp) rfl rfl rfl hc j pinO s12 _ H11 (fun _ _ => False) Ij (stt1 m11) z11 go1
            refine thnF tin1 fun r s13 ⟨u1, hr, h13⟩ => ?_
            subst hr
            refine thnF h13 fun _ s14 ⟨x1, H12, Il, r14, y14, z14, n14⟩ => ?_
            have Im := Il.pinned (stt1 n14) (T1.obj _ _ z14)
            refine thnF (qg1.run _ s14 _ H12 x1 u1 _ Im r14 (step1 x1 H12 y14)) fun _ s15 ⟨σ15, H15, In, hw15, q15⟩ => ?_
            refine thnF (qt1.run _ s15 σ15 H15 _ In q15) fun b s16 ⟨H16, Io, q16⟩ => ?_
            have ends1 : ∀ {s' : Shared} {H' : Hp}, Inv (X.blk s3 H3 scope ce fp) (pinO ++ pinsAt fp1 s14.heap) σ15 H' s' → Nx1 H' → ∃ m, m < kk0 ∧ ∃ j H', Inv (X.blk s3 H3 scope ce fp) pinO (wipe σ8 vs1) H' s' ∧ tq j s'.heap ∧ (∀ b ∈ fp1, H' b = none) ∧ W1 j m H' := fun {s' H'} I' nx => by
              obtain ⟨m', hm, w'⟩ := hNx1 H' nx
              have pin2 : ∀ b ∈ fp1, ∀ o, s14.heap.get? b = some o → s'.heap.get? b = some o ∧ H' b = none := fun b hb o e =>
                let z := I'.pin (b, o) (List.mem_append_right _ (List.mem_append_right _ (mem_pinsAt hb e)))
                ⟨z.1, z.2.1⟩
              have hl : (wipe σ8 vs1).length = σ15.length := by rw [← hw15, wipe_length]
              refine ⟨m', hm, j + 1, H', (I'.unpinned (pins := pinO)).weak hl (fun j v e => ?_), T1.keep _ _ _ z14 fun b hb o e => (pin2 b hb o e).1, fun b hb => ?_, w'⟩
              · rw [← hw15] at e
                exact (wipe_some e).1
              · obtain ⟨o, e, _⟩ := T1.obj _ _ z14 b hb
                exact (pin2 b hb o e).2
            cases b with
            | false =>
              simp only [Bool.false_eq_true, if_false] at q16 ⊢
              exact ends1 Io q16
            | true =>
              simp only [if_true] at q16 ⊢
              refine thnF (qe.run _ s16 σ15 H16 _ Io q16) fun z s17 ⟨yv, H17, Ip, r17, bb, kk, L0, ey, hb17, hD17, hL17, hf17, nx⟩ => ?_
              subst ey
              cases (show z = Value.ref bb from r17)
              exact addT_ok (X := X.blk s3 H3 scope ce fp) Ip hu hD17 hL17 hb17 hf17 fun s18 L1 c1 c2 Iq => ends1 Iq (nx L1 c1 c2)
        exact startS2_ok lpI (T1.self X.A 0 _ _ _ z10 lpI)
  exact startS2_0 lp (T.self X.A 0 _ _ _ z4 lp)
theorem pe_scT2 {elt tg iter tg1 iter1 : Expr} {ifs ifs1 : List Expr} {scope : Scope} {own : List (PySem.Str × Nat)} {vs1 : List Nat} {pos : Pos} {wi wi1 : TI} {g g1 : TG} {tt tt1 : TT} {te : TE} (hu : X.A.units + 64 < cLine) (hc : X.calm = true) (hN : X.N.Nodup) (hi : PI X tg iter wi) (ok : BlkOk X.N X.env.scope scope own) (hv : ∀ i ∈ vs1, i ∈ own.map (·.2))
    (hg : ∀ (s : Shared) (H : Hp) (C : Addr) (cl : List (PySem.Str × Addr)) (fp : List Addr), PG (X.blk s H scope (compEnvC scope cl C X.env) fp) tg g) (ht : ∀ (s : Shared) (H : Hp) (C : Addr) (cl : List (PySem.Str × Addr)) (fp : List Addr), PTs (X.blk s H scope (compEnvC scope cl C X.env) fp) ifs tt)
    (hi1 : ∀ (s : Shared) (H : Hp) (C : Addr) (cl : List (PySem.Str × Addr)) (fp : List Addr), PI (X.blk s H scope (compEnvC scope cl C X.env) fp) tg1 iter1 wi1)
    (hg1 : ∀ (s : Shared) (H : Hp) (C : Addr) (cl : List (PySem.Str × Addr)) (fp : List Addr), PG (X.blk s H scope (compEnvC scope cl C X.env) fp) tg1 g1) (ht1 : ∀ (s : Shared) (H : Hp) (C : Addr) (cl : List (PySem.Str × Addr)) (fp : List Addr), PTs (X.blk s H scope (compEnvC scope cl C X.env) fp) ifs1 tt1)
    (he : ∀ (s : Shared) (H : Hp) (C : Addr) (cl : List (PySem.Str × Addr)) (fp : List Addr), PE (X.blk s H scope (compEnvC scope cl C X.env) fp) elt te) (hs : ∀ x, foldedSetIterable iter X.env x = pure x := by intro _; rfl) (hs1 : ∀ env x, foldedSetIterable iter1 env x = pure x := by intro _ _; rfl) :
    PE X (.SetComp elt [⟨tg, iter, ifs, 0⟩, ⟨tg1, iter1, ifs1, 0⟩] scope pos) (tScT2 X.prog X.w X.K wi g tt wi1 g1 tt1 te (own.map (·.2)) vs1) := by
  refine ⟨fun pins s σ H Q I h => ?_⟩
  rw [eval_SetComp]
  refine scT2_core hu hc hN I hi ok hv hg ht hi1 hg1 ht1 he hs hs1 h fun D C s' m H' I' q hn f => ⟨m, hn, fun h'' sb => ?_⟩
  obtain ⟨f0, f1, k2, k3, f4, f5⟩ := f
  exact ⟨.ref D, H', I'.turned (t' := s'.toks) (fun b o hb e => (sb.2 b hb).trans e) f0 f1 k3 f4 f5, rfl, q⟩
end
end K09

/-! subgroup. -/
namespace K09
open PySem PySem.Spec PyProof.Rows L2
def stepsL (r p : List Int) : List (List Int) := (List.range (ordL r).toNat).map fun (j : Nat) => repL r p (j : Int)
def sgStep (r : List Int) (G : List (List Int)) (p : List Int) : List (List Int) := if p ∈ G then G else (placesL r).filter fun z => G.any fun g => (stepsL r p).any fun s => decide (sumP r g s = z)
def zr (r : List Int) : List Int := List.replicate r.length 0
def sgL (r : List Int) (ps : List (List Int)) : List (List Int) := ps.foldl (sgStep r) [zr r]
theorem zr_in : ∀ r ∈ RR, zr r ∈ placesL r := by decide +kernel
theorem steps_in : ∀ r ∈ RR, ∀ p ∈ placesL r, ∀ s ∈ stepsL r p, s ∈ placesL r := by decide +kernel
theorem pl_code : ∀ r ∈ RR, (placesL r).Pairwise fun x y => TS.code 64 x < TS.code 64 y := by decide +kernel
theorem pl_bd : ∀ r ∈ RR, ∀ p ∈ placesL r, ∀ x ∈ p, 0 ≤ x ∧ x < 64 := by decide +kernel
/-- ascending sublists of all places -/
theorem sub_eq {r : List Int} (h : r ∈ RR) {A B : List (List Int)} (hA : ∀ p ∈ A, p ∈ placesL r) (nA : A.Nodup) (sA : A.Pairwise fun x y => TS.code 64 x ≤ TS.code 64 y) (hB : B.Sublist (placesL r)) (e : ∀ z, z ∈ A ↔ z ∈ B) : A = B := by
  have pB := (pl_code r h).sublist hB
  have nB : B.Nodup := (rr_nd r h).sublist hB
  have inj : ∀ x ∈ placesL r, ∀ y ∈ placesL r, TS.code 64 x = TS.code 64 y → x = y := fun x hx y hy c => by
    have q := pl_code r h
    rw [List.pairwise_iff_getElem] at q
    obtain ⟨i, hi, rfl⟩ := List.getElem_of_mem hx
    obtain ⟨j, hj, rfl⟩ := List.getElem_of_mem hy
    rcases Nat.lt_trichotomy i j with z | z | z
    · have := q i j hi hj z
      omega
    · subst z
      rfl
    · have := q j i hj hi z
      omega
  refine List.Perm.eq_of_pairwise (le := fun x y => TS.code 64 x ≤ TS.code 64 y) (fun x y hx hy c1 c2 => ?_) sA (pB.imp fun z => Int.le_of_lt z) ((List.perm_ext_iff_of_nodup nA nB).mpr e)
  exact inj x (hA x hx) y (hB.subset hy) (by omega)
section
variable {P : Program} {w : World} {K : PySem.W.Frag} {mg : Str → Option Value} {base : Heap} {f f1 f2 f3 f4 f5 C fI fM : Addr} {fd fd1 fd2 fd3 fd4 fd5 fdI : FuncData}
def spSub (K : PySem.W.Frag) : Sp := fun vs H Q _ => ∃ (v u : V) (r : List Int) (ps : List (List Int)), vs = [v, u] ∧ TupI K H v r ∧ PlT K H u ps ∧ r ∈ RR ∧ (∀ p ∈ ps, p ∈ placesL r) ∧ ps.length ≤ 64 ∧ AscL ps ∧ ∀ v' H', Same H H' → PlT K H' v' (sgL r ps) → Q v' H'
abbrev sgN : List Str := ["rings", "places", "order", "found", "place", "steps", "_", "many", "one", "step"]
theorem scSub : FnScope sgN ["rings", "places"] (defScope sSubgroup) := ⟨rfl, rfl, rfl, by decide +kernel, rfl, by decide +kernel, by decide +kernel⟩
theorem ok_sub (F : FnP K "subgroup" sSubgroup f fd) (B : Bl mg) (F1 : FnP K "check_lot" sChkLot f1 fd1) (g1 : mg "check_lot" = some (.ref f1)) (G1 : FnOk P w K mg base CX0 6 f1 fd1 ["rings", "places"] (spIsLot K .non))
    (F2 : FnP K "order_of" sOrdOf f2 fd2) (g2 : mg "order_of" = some (.ref f2)) (G2 : FnOk P w K mg base CX0 5 f2 fd2 ["rings"] (spOrder K)) (F3 : FnP K "repeated" sRep f3 fd3) (g3 : mg "repeated" = some (.ref f3)) (G3 : FnOk P w K mg base CX0 1 f3 fd3 ["rings", "place", "many"] (spRep K))
    (F4 : FnP K "added" sAdd f4 fd4) (g4 : mg "added" = some (.ref f4)) (G4 : FnOk P w K mg base CX0 1 f4 fd4 ["rings", "one", "other"] (spAdd K)) :
    FnOk P w K mg base CX0 7 f fd ["rings", "places"] (spSub K) := by
  have b1 : Binds K fd1 ["rings", "places"] [] := F1.bindsN fun _ _ _ _ _ _ us hl => match us, hl with | [_, _], _ => rfl
  have b2 : Binds K fd2 ["rings"] [] := F2.bindsN fun _ _ _ _ _ _ us hl => match us, hl with | [_], _ => rfl
  have b3 : Binds K fd3 ["rings", "place", "many"] [] := F3.bindsN fun _ _ _ _ _ _ us hl => match us, hl with | [_, _, _], _ => rfl
  have b4 : Binds K fd4 ["rings", "one", "other"] [] := F4.bindsN fun _ _ _ _ _ _ us hl => match us, hl with | [_, _, _], _ => rfl
  refine F.ok scSub (fun vs H Q E h => ?_) (fun cdv A outer s H vs Q E hr h => ?_)
  · obtain ⟨v, u, r, ps, rfl, _⟩ := h
    rfl
  · obtain ⟨v, u, r, ps, rfl, ⟨a, rfl, ha⟩, hP, h14, hin, hl, asc, k⟩ := h
    have hu := hr.units
    have hu5 : (A.deeper (envOfC "subgroup" (defScope sSubgroup) s.heap.objs.size f cdv)).units + 65 < cLine := by
      have := hr.un
      omega
    refine ⟨_, PSs.nox (pss_cons (ps_expr (pe_call G1 hr rfl g1 F1.kp b1 .nil pass0 (pa_cons (pv 0) (pa_cons (pv 1) pa_nil))))
      (pss_cons (ps_set (i := 2) scSub.nd rfl (Or.inl rfl) (pe_call G2 (hr.mono (by decide)) (by rfl) g2 F2.kp b2 .nil pass0 (pa_cons (pv 0) pa_nil)))
      (pss_cons (ps_set (i := 3) scSub.nd rfl (Or.inl rfl) (pe_lst (pa_cons (pe_callTy call_tuple_of (by rfl) (B "tuple" (by decide +kernel)) (by decide +kernel) (pa_cons
          (pe_lc (own := [("_", 6)]) (g := gName 6) (tt := tYes) (te := tC (.int 0)) rfl scSub.nd (pi_tup (pv 0)) (blkOk_by (own := [("_", 6)]) (N := sgN) (sc := defScope sSubgroup) (by decide +kernel)) (fun _ _ _ _ _ => pg_name (i := 6) scSub.nd rfl (Or.inl rfl)) (fun _ _ _ _ _ => pts_nil) (fun _ _ _ _ _ => pe_int)) pa_nil)) pa_nil)))
      (pss_cons (ps_for PassesOwn.never rfl (pi_tup (pv 1)) (pg_name (i := 4) scSub.nd rfl (Or.inr rfl))
        (pss_one (ps_if (pt_cmpR (op_notInD hu5) (pv 4) (pv 3) rfl)
          (pss_cons (ps_set (i := 5) scSub.nd rfl (Or.inr rfl) (pe_lc (own := [("many", 7)]) (g := gName 7) (tt := tYes) (te := tCall (spRep K) [] E0 (tCons (tVar 0) (tCons (tVar 4) (tCons (tVar 7) tNil)))) rfl scSub.nd (pi_range1 rfl (B "range" (by decide +kernel)) (pa_cons (pv 2) pa_nil))
              (blkOk_by (own := [("many", 7)]) (N := sgN) (sc := defScope sSubgroup) (by decide +kernel)) (fun _ _ _ _ _ => pg_name (i := 7) scSub.nd rfl (Or.inl rfl)) (fun _ _ _ _ _ => pts_nil)
              (fun _ _ _ _ _ => pe_call G3 (hr.mono (by decide)) rfl g3 F3.kp b3 .nil pass0 (pa_cons (pv 0) (pa_cons (pv 4) (pa_cons (pv 7) pa_nil))))))
          (pss_one (ps_set (i := 3) scSub.nd rfl (Or.inl rfl) (pe_callB (cr_sortedT rfl) (by rfl) (B "sorted" (by decide +kernel)) (by decide +kernel) (pa_cons
            (pe_scT2 (own := [("one", 8), ("step", 9)]) (vs1 := [9]) (g := gName 8) (tt := tYes) (wi1 := iList K (tVar 5)) (g1 := gName 9) (tt1 := tYes) (te := tCall (spAdd K) [] E0 (tCons (tVar 0) (tCons (tVar 8) (tCons (tVar 9) tNil)))) hr.units rfl scSub.nd (pi_list (pv 3))
              (blkOk_by (own := [("one", 8), ("step", 9)]) (N := sgN) (sc := defScope sSubgroup) (by decide +kernel)) (by decide) (fun _ _ _ _ _ => pg_name (i := 8) scSub.nd rfl (Or.inl rfl)) (fun _ _ _ _ _ => pts_nil)
              (fun _ _ _ _ _ => pi_list (pv 5)) (fun _ _ _ _ _ => pg_name (i := 9) scSub.nd rfl (Or.inl rfl)) (fun _ _ _ _ _ => pts_nil)
              (fun _ _ _ _ _ => pe_call G4 (hr.mono (by decide)) rfl g4 F4.kp b4 .nil pass0 (pa_cons (pv 0) (pa_cons (pv 8) (pa_cons (pv 9) pa_nil))))) pa_nil))))) pss_nil)))
      (pss_one (ps_ret (pe_callTy call_tuple_of (by rfl) (B "tuple" (by decide +kernel)) (by decide +kernel) (pa_cons (pv 3) pa_nil)))))))), ?_⟩
    have he := er_bd _ (er_in r h14)
    have l16 := rr_pl0 r h14
    have hn := rr_len r h14
    obtain ⟨b, ks, rfl, hb, rfl, hk⟩ := id hP
    refine ⟨_, rfl, _, rfl, _, _, r, _, rfl, ⟨a, rfl, ha⟩, hP, h14, hin, hl, asc, fun H1 s1 => ?_⟩
    refine ⟨_, rfl, _, r, rfl, ⟨a, rfl, s1.tup ha⟩, h14, fun H2 s2 => ?_⟩
    have t2 := s1.trans s2
    refine ⟨_, rfl, a, rfl, ⟨_, t2.tup ha⟩, fun D hD => ?_⟩
    refine lc_tup (K := K) (a := a) (xs := r.map V.int) (fun i H3 => Same H2 H3 ∧ H3 D = some (.lst ((List.replicate i (0 : Int)).map V.int))) ⟨same_upd hD, upd_same⟩ (fun i H3 _ ⟨s3, _⟩ => s3.tup (t2.tup ha)) ?_ ?_
    · rintro i y H3 hi ⟨s3, h3⟩
      obtain ⟨c, rfl, hc⟩ := getI hi
      have := ltL hc
      refine ⟨rfl, _, h3, sl_lt (by rw [List.length_map, List.length_replicate]; omega), same_at s3 hD, ?_⟩
      rw [upd_same, List.replicate_succ', List.map_append]
      rfl
    · rintro H3 ⟨s3, h3⟩
      rw [List.length_map] at h3
      refine ⟨D, _, rfl, .inl ⟨SqL.of h3, fun z hz => ?_⟩⟩
      have s4 : Same H3 (upd H3 z (.tup ((zr r).map V.int))) := same_upd hz
      have hz4 : upd H3 z (.tup ((zr r).map V.int)) z = some (.tup ((zr r).map V.int)) := upd_same
      refine ⟨by show 1 ≤ sizeLine; decide, fun L0 hL0 => ?_⟩
      have ez : (List.replicate r.length (0 : Int)) = zr r := rfl
      rw [ez] at hL0 ⊢
      generalize upd H3 z (.tup ((zr r).map V.int)) = H4 at s4 hz4 hL0
      have s5 : Same H4 (upd H4 L0 (.lst [.ref z])) := same_upd hL0
      have h5 : upd H4 L0 (.lst [.ref z]) L0 = some (.lst (rf [(z, zr r)])) := upd_same
      generalize upd H4 L0 (.lst [.ref z]) = H5 at s5 h5
      have t5 := t2.trans ((s3.trans s4).trans s5)
      refine ⟨_, rfl, b, rfl, ⟨_, t5.tup hb⟩, for_tup (K := K) (a := b) (xs := rf ks) (fun i σ H6 => ∃ fl u4 u5 gks, σ = [some (V.ref a), some (.ref b), some (.int (ordL r)), some (.ref fl), u4, u5, none, none, none, none] ∧ Same H5 H6 ∧ H6 fl = some (.lst (rf gks)) ∧ TP K H6 gks ∧ gks.map (·.2) = sgL r ((ks.map (·.2)).take i) ∧ (gks.map (·.2)).Sublist (placesL r))
        ⟨L0, none, none, [(z, zr r)], rfl, Same.refl _, h5, ⟨fun p hp => ?_⟩, rfl, ?_⟩ (fun i σ H6 _ ⟨_, _, _, _, _, s6, _⟩ => s6.tup (t5.tup hb)) ?_ ?_⟩
      · rw [List.mem_singleton.mp hp]
        exact s5 _ _ hz4
      · exact List.singleton_sublist.mpr (zr_in r h14)
      · rintro i y σ H6 hi ⟨fl, u4, u5, gks, rfl, s6, h6, tp6, e6, sub6⟩
        obtain ⟨q, rfl, hq⟩ := getR hi
        have hqm := List.mem_of_getElem? hq
        have hqp := hin _ (List.mem_map_of_mem hqm)
        have hq2 : (ks.map (·.2))[i]? = some q.2 := by rw [List.getElem?_map, hq]; rfl
        have t6 := t5.trans s6
        have gin : ∀ g ∈ gks.map (·.2), g ∈ placesL r := fun g hg => sub6.subset hg
        have gl : gks.length ≤ 16 := by
          have := sub6.length_le
          rw [List.length_map] at this
          omega
        have stp : sgL r ((ks.map (·.2)).take (i + 1)) = sgStep r (gks.map (·.2)) q.2 := by
          rw [takeS hq2, e6]
          unfold sgL
          rw [List.foldl_append]
          rfl
        have dpf : Dp K H6 (.ref fl) (.list ((gks.map (·.2)).map intsD)) := .lst (SqL.of h6) (dp_all tp6)
        refine ⟨_, rfl, _, rfl, intsD q.2, _, .tup (t6.tup (hk q hqm)) (dp_ints _), dpf, ints_shaped _, pls_shaped _, _, rfl, ?_⟩
        rw [any_eqv (fun g hg => by rw [rr_whole h14 (gin g hg), rr_whole h14 hqp])]
        by_cases cin : q.2 ∈ gks.map (·.2)
        · rw [decide_eq_true cin]
          refine ite2 (fun c => absurd c (by decide)) fun _ => ?_
          refine ⟨fl, _, _, gks, rfl, s6, h6, tp6, ?_, sub6⟩
          rw [stp]
          unfold sgStep
          rw [if_pos cin]
        · rw [decide_eq_false cin]
          refine ite2 (fun _ => ?_) fun c => absurd rfl c
          -- the steps
          refine ⟨_, rfl, _, rfl, by omega, by omega, fun Ds hDs => ?_⟩
          refine lc_range (lo := 0) (n := (ordL r).toNat) (fun j H7 => Same H6 H7 ∧ ∃ sk, H7 Ds = some (.lst (rf sk)) ∧ TP K H7 sk ∧ sk.map (·.2) = (stepsL r q.2).take j ∧ sk.length = j) ⟨same_upd hDs, [], upd_same, tp_nil, rfl, rfl⟩ ?_ ?_
          · rintro j H7 hj ⟨s7, sk, h7, tp7, e7, l7⟩
            have e0 : (0 : Int) + (j : Int) = (j : Int) := Int.zero_add _
            have t7 := t6.trans s7
            have hs2 : (stepsL r q.2)[j]? = some (repL r q.2 (j : Int)) := by
              unfold stepsL
              rw [List.getElem?_map, List.getElem?_range hj]
              rfl
            refine ⟨rfl, _, rfl, _, rfl, _, rfl, _, _, r, q.2, (j : Int), by rw [e0]; rfl, ⟨a, rfl, t7.tup ha⟩, ⟨q.1, rfl, t7.tup (hk q hqm)⟩, h14, rr_whole h14 hqp, by omega, by omega, fun t8 H8 s8 nt h8 => ?_⟩
            have tp8 := tp_snoc (tp_same s8 tp7) h8
            have ne : Ds ≠ t8 := ne_of (s8 _ _ h7) h8 (by intro z; cases z)
            refine ⟨_, s8 _ _ h7, sl_lt (by rw [List.length_map]; omega), same_at (s7.trans s8) hDs, sk ++ [(t8, repL r q.2 (j : Int))], by rw [upd_same]; unfold rf; rw [List.map_append]; rfl, ⟨fun p hp => ?_⟩, ?_, by rw [List.length_append, l7]; rfl⟩
            · rw [upd_ne (ne_of (tp8.out p hp) (s8 _ _ h7) (by intro z; cases z))]
              exact tp8.out p hp
            · rw [List.map_append, e7, takeS hs2]
              rfl
          · rintro H7 ⟨s7, sk, h7, tp7, e7, l7⟩
            have sl : (stepsL r q.2).length = (ordL r).toNat := by unfold stepsL; rw [List.length_map, List.length_range]
            rw [← sl, List.take_length] at e7
            have t7 := t6.trans s7
            have tpg := tp_same s7 tp6
            have h67 := s7 _ _ h6
            -- all sums
            refine ⟨_, rfl, fl, rfl, ⟨_, SqL.of h67⟩, fun D2 hD2 => ?_⟩
            refine out_list (K := K) (a := fl) (xs := rf gks) (fun i H8 => Same H7 H8 ∧ ∃ L, H8 D2 = some (SetTO P w D2 L) ∧ TP K H8 L ∧ (L.map (·.2)).Nodup ∧ (∀ z, z ∈ L.map (·.2) ↔ ∃ g ∈ (gks.map (·.2)).take i, ∃ s ∈ stepsL r q.2, sumP r g s = z)) ⟨same_upd hD2, [], upd_same, tp_nil, List.nodup_nil, fun z => by simp⟩ (fun i H8 _ ⟨s8, _⟩ => SqL.of (s8 _ _ h67)) ?_ ?_
            · rintro ig yg H8 hig ⟨s8, L, h8, tp8, nd8, m8⟩
              obtain ⟨gq, rfl, hgq⟩ := getR hig
              have hg2 : (gks.map (·.2))[ig]? = some gq.2 := by rw [List.getElem?_map, hgq]; rfl
              have hgp := gin _ (List.mem_of_getElem? hg2)
              have hst8 := s8 _ _ h7
              refine ⟨rfl, _, rfl, Ds, rfl, ⟨_, SqL.of hst8⟩, ?_⟩
              refine out_list (K := K) (a := Ds) (xs := rf sk) (fun j H9 => Same H7 H9 ∧ ∃ L, H9 D2 = some (SetTO P w D2 L) ∧ TP K H9 L ∧ (L.map (·.2)).Nodup ∧ (∀ z, z ∈ L.map (·.2) ↔ (∃ g ∈ (gks.map (·.2)).take ig, ∃ s ∈ stepsL r q.2, sumP r g s = z) ∨ ∃ s ∈ (stepsL r q.2).take j, sumP r gq.2 s = z)) ⟨s8, L, h8, tp8, nd8, fun z => by rw [m8]; simp⟩ (fun j H9 _ ⟨s9, _⟩ => SqL.of (s9 _ _ h7)) ?_ ?_
              · rintro j ys H9 hj ⟨s9, L9, h9, tp9, nd9, m9⟩
                obtain ⟨sq, rfl, hsq⟩ := getR hj
                have hs2 : (stepsL r q.2)[j]? = some sq.2 := by rw [← e7, List.getElem?_map, hsq]; rfl
                have hsp := steps_in r h14 _ hqp _ (List.mem_of_getElem? hs2)
                have t9 := t7.trans s9
                have tg9 := tp_same s9 tpg
                have ts9 := tp_same s9 tp7
                refine ⟨rfl, _, rfl, _, rfl, _, rfl, _, _, _, r, gq.2, sq.2, rfl, ⟨a, rfl, t9.tup ha⟩, ⟨gq.1, rfl, SqT.of (tg9.out gq (List.mem_of_getElem? hgq))⟩, ⟨sq.1, rfl, SqT.of (ts9.out sq (List.mem_of_getElem? hsq))⟩, h14, rr_whole h14 hgp, rr_whole h14 hsp, fun tn Hn sn ntn hn' => ?_⟩
                have L64 : L9.length + 1 < 64 := by
                  have e : ∀ z ∈ L9.map (·.2), z ∈ placesL r := fun z hz => by
                    rcases (m9 z).mp hz with ⟨g, hg, s', hs', rfl⟩ | ⟨s', hs', rfl⟩
                    · exact sum_in r h14 _ (gin g (List.mem_of_mem_take hg)) _ (steps_in r h14 _ hqp _ hs')
                    · exact sum_in r h14 _ hgp _ (steps_in r h14 _ hqp _ (List.mem_of_mem_take hs'))
                  have pm : (L9.map (·.2)).Perm ((placesL r).filter fun z => decide (z ∈ L9.map (·.2))) := (List.perm_ext_iff_of_nodup nd9 ((rr_nd r h14).sublist List.filter_sublist)).mpr fun z => by
                    rw [List.mem_filter, decide_eq_true_iff]
                    exact ⟨fun hz => ⟨e z hz, hz⟩, fun hz => hz.2⟩
                  have e1 := pm.length_eq
                  rw [List.length_map] at e1
                  have e2 := List.length_filter_le (fun z => decide (z ∈ L9.map (·.2))) (placesL r)
                  omega
                have nD2 : H7 D2 = none := hD2
                have tpn := tp_same sn tp9
                refine ⟨tn, sumP r gq.2 sq.2, L9, rfl, SqT.of hn', sn _ _ h9, tpn.tl, L64, fun L' c1 c2 => ⟨same_at (s9.trans sn) nD2, L', upd_same, ?_, ?_, ?_⟩⟩
                all_goals
                  rcases Classical.em (sumP r gq.2 sq.2 ∈ L9.map (·.2)) with cc | cc
                · rw [c1 cc]
                  exact ⟨fun p hp => by rw [upd_ne (ne_of (tpn.out p hp) (sn _ _ h9) (by intro z; cases z))]; exact tpn.out p hp⟩
                · refine ⟨fun p hp => ?_⟩
                  rcases List.mem_cons.mp ((c2 cc).mem_iff.mp hp) with z | z
                  · rw [z, upd_ne (ne_of hn' (sn _ _ h9) (by intro z; cases z))]
                    exact hn'
                  · rw [upd_ne (ne_of (tpn.out p z) (sn _ _ h9) (by intro z; cases z))]
                    exact tpn.out p z
                · rw [c1 cc]
                  exact nd9
                · exact ((c2 cc).map (·.2)).nodup_iff.mpr (List.nodup_cons.mpr ⟨cc, nd9⟩)
                · intro z
                  rw [c1 cc, takeS hs2]
                  constructor
                  · intro hz
                    rcases (m9 z).mp hz with x | ⟨s', hs', e⟩
                    · exact .inl x
                    · exact .inr ⟨s', List.mem_append_left _ hs', e⟩
                  · rintro (x | ⟨s', hs', e⟩)
                    · exact (m9 z).mpr (.inl x)
                    · rcases List.mem_append.mp hs' with x | x
                      · exact (m9 z).mpr (.inr ⟨s', x, e⟩)
                      · rw [List.mem_singleton.mp x] at e
                        rw [← e]
                        exact cc
                · intro z
                  rw [((c2 cc).map (·.2)).mem_iff, List.map_cons, List.mem_cons, takeS hs2]
                  constructor
                  · rintro (x | hz)
                    · exact .inr ⟨sq.2, List.mem_append_right _ (List.mem_singleton.mpr rfl), x.symm⟩
                    · rcases (m9 z).mp hz with x | ⟨s', hs', e⟩
                      · exact .inl x
                      · exact .inr ⟨s', List.mem_append_left _ hs', e⟩
                  · rintro (x | ⟨s', hs', e⟩)
                    · exact .inr ((m9 z).mpr (.inl x))
                    · rcases List.mem_append.mp hs' with x | x
                      · exact .inr ((m9 z).mpr (.inr ⟨s', x, e⟩))
                      · rw [List.mem_singleton.mp x] at e
                        exact .inl e.symm
              · rintro H9 ⟨s9, L9, h9, tp9, nd9, m9⟩
                rw [List.length_map, ← List.length_map (f := fun p : Addr × List Int => p.2), e7, List.take_length] at m9
                refine ⟨s9, L9, h9, tp9, nd9, fun z => ?_⟩
                rw [m9, takeS hg2]
                constructor
                · rintro (⟨g, hg, x⟩ | x)
                  · exact ⟨g, List.mem_append_left _ hg, x⟩
                  · exact ⟨gq.2, List.mem_append_right _ (List.mem_singleton.mpr rfl), x⟩
                · rintro ⟨g, hg, x⟩
                  rcases List.mem_append.mp hg with y | y
                  · exact .inl ⟨g, y, x⟩
                  · rw [List.mem_singleton.mp y] at x
                    exact .inr x
            · rintro H8 ⟨s8, L, h8, tp8, nd8, m8⟩
              rw [List.length_map, ← List.length_map (f := fun p : Addr × List Int => p.2), List.take_length] at m8
              have inP : ∀ z ∈ L.map (·.2), z ∈ placesL r := fun z hz => by
                obtain ⟨g, hg, s', hs', rfl⟩ := (m8 z).mp hz
                exact sum_in r h14 _ (gin g hg) _ (steps_in r h14 _ hqp _ hs')
              refine ⟨D2, L, r.length, 64, rfl, h8, tp8.tl, hn.1, fun p hp => ⟨rr_whole h14 (inP _ (List.mem_map_of_mem hp)), pl_bd r h14 _ (inP _ (List.mem_map_of_mem hp))⟩, fun L' pp pm nd few pw hpp => ?_⟩
              have s9 : Same H8 (upd H8 pp (.lst (rf L'))) := same_upd hpp
              have e9 : L'.map (·.2) = sgStep r (gks.map (·.2)) q.2 := by
                unfold sgStep
                rw [if_neg cin]
                refine sub_eq h14 (fun z hz => inP z ((pm.map (·.2)).mem_iff.mp hz)) nd (List.pairwise_map.mpr pw) List.filter_sublist fun z => ?_
                rw [(pm.map (·.2)).mem_iff, m8, List.mem_filter, List.any_eq_true]
                constructor
                · rintro ⟨g, hg, s', hs', rfl⟩
                  exact ⟨sum_in r h14 _ (gin g hg) _ (steps_in r h14 _ hqp _ hs'), g, hg, List.any_eq_true.mpr ⟨s', hs', decide_eq_true rfl⟩⟩
                · rintro ⟨_, g, hg, x⟩
                  obtain ⟨s', hs', e⟩ := List.any_eq_true.mp x
                  exact ⟨g, hg, s', hs', of_decide_eq_true e⟩
              refine ⟨pp, _, _, L', rfl, ((s6.trans s7).trans s8).trans s9, upd_same, ⟨fun p hp => s9 _ _ (tp8.out p (pm.mem_iff.mp hp))⟩, by rw [stp]; exact e9, ?_⟩
              rw [e9]
              unfold sgStep
              rw [if_neg cin]
              exact List.filter_sublist
      · rintro σ H6 ⟨fl, u4, u5, gks, rfl, s6, h6, tp6, e6, _⟩
        rw [List.length_map, ← List.length_map (f := fun p : Addr × List Int => p.2), List.take_length] at e6
        refine ⟨_, rfl, fl, _, rfl, .inl ⟨SqL.of h6, fun tt ht => ?_⟩⟩
        have s7 : Same H6 (upd H6 tt (.tup (rf gks))) := same_upd ht
        exact k _ _ ((t5.trans s6).trans s7) ⟨tt, gks, rfl, SqT.of upd_same, e6, tp_same s7 tp6⟩
end
end K09

/-! Whole numbers; the voices of a subgroup. -/
namespace K09
open PySem PySem.Spec PyProof.Rows L2
theorem rof_eq {r : List Int} (hr : r ∈ RR) (x : Int) : lowL (redL [x] (polyL (ordL r))) 1 = whN r x := by
  rw [low_one, red_whole (poly_len hr).1]
  rfl
theorem numC_wh {r : List Int} (h : r ∈ RR) (x : Int) : NumC (dg r) (whN r x) := by
  rw [← rof_eq h]
  exact numC_low (by decide) (redL_len' (by have := poly_len h; omega))
theorem wh_get {r : List Int} (h : r ∈ RR) (x : Int) {k : Nat} (hk : k < dg r) : (whN r x).1.getD k 0 = if k = 0 then x else 0 := by
  unfold whN
  cases k with
  | zero => rfl
  | succ k =>
    rw [List.getD_eq_getElem?_getD, List.getElem?_cons_succ, List.getElem?_replicate]
    split <;> simp
theorem mw_wh {r : List Int} (h : r ∈ RR) (u : Nat → Int) (x : Int) {j : Nat} (hj : j < dg r) : mw r u (fun k => (whN r x).1.getD k 0) j = x * u j := by
  have d1 := (tabs_of h).d1
  have e1 : ∀ i, i < dg r → u i * tn (dg r) (polyL (ordL r)) i (fun k => (whN r x).1.getD k 0) j = if i = j then x * u i else 0 := fun i hi => by
    have a : tn (dg r) (polyL (ordL r)) i (fun k => (whN r x).1.getD k 0) j = sm (dg r) (fun k => if k = 0 then x * Tz (dg r) (polyL (ordL r)) j (i + k) else 0) := sm_congr fun k hk => by
      show (whN r x).1.getD k 0 * _ = _
      rw [wh_get h x hk]
      split
      · rfl
      · exact Int.zero_mul _
    rw [a, sm_delta (f := fun k => x * Tz (dg r) (polyL (ordL r)) j (i + k)), if_pos (by omega), Nat.add_zero, T_lo hi]
    by_cases c : i = j
    · rw [if_pos c, if_pos c, Int.mul_one, Int.mul_comm]
    · rw [if_neg c, if_neg c, Int.mul_zero, Int.mul_zero]
  unfold mw
  rw [sm_congr e1, sm_delta (f := fun i => x * u i), if_pos hj]
/-- all voices are as loud as all items together, n times -/
theorem loud_all {r : List Int} (h : r ∈ RR) {ns : List Num} (C : RowC r ns) : totL r ((voL r ns).map (loudL (ordL r))) = prodL (ordL r) (totL r (ns.map (loudL (ordL r)))) (whN r ((placesL r).length : Nat)) := by
  have hB := levB_one C
  have hM := mul1 hB hB
  have A := reps_loud h (reps_lev C)
  have V := reps_loud h (reps_vo h C)
  have lv : ((voL r ns).map (loudL (ordL r))).length = (placesL r).length := by rw [List.length_map, voL_len]
  have ln : (ns.map (loudL (ordL r))).length = (placesL r).length := by rw [List.length_map, C.len]
  have q1 := reps_tot V hM _ (Nat.le_refl _)
  have q2 := reps_tot A hM _ (Nat.le_refl _)
  have c1 := numC_tot V.c ((voL r ns).map (loudL (ordL r))).length
  have c2 := numC_tot A.c (ns.map (loudL (ordL r))).length
  rw [List.take_length] at q1 q2 c1 c2
  have q3 := Rp_prod2 h c2 (numC_wh h ((placesL r).length : Nat)) q2 (Rp_self (dg r) (whN r ((placesL r).length : Nat)))
  have e1 : (whN r ((placesL r).length : Nat)).2 = 1 := rfl
  rw [e1, Int.mul_one] at q3
  refine Rp_eq hM c1 (numC_prod h c2 (numC_wh h _)) q1 (Rp_congr (fun k hk => ?_) q3)
  rw [mw_wh h _ _ hk, lv, ln, parseval h _ hk]
/-! ### subgroups -/
structure ClG (r : List Int) (G : List (List Int)) : Prop where
  sub : G.Sublist (placesL r)
  zero : zr r ∈ G
  add : ∀ x ∈ G, ∀ y ∈ G, sumP r x y ∈ G
theorem rr_div : ∀ r ∈ RR, ∀ k ∈ List.range r.length, 1 ≤ r.getD k 0 ∧ ordL r % r.getD k 0 = 0 := by decide +kernel
theorem rep_add {r : List Int} (h : r ∈ RR) (p : List Int) (i j : Int) : sumP r (repL r p i) (repL r p j) = repL r p ((i + j) % ordL r) := by
  unfold sumP repL
  refine List.map_congr_left fun k hk => ?_
  have hk' := List.mem_range.mp hk
  have dv := rr_div r h k hk
  rw [getD_rng hk', getD_rng hk', ← Int.add_emod, ← Int.mul_add]
  rw [Int.mul_emod, Int.mul_emod (p.getD k 0) ((i + j) % ordL r), Int.emod_emod_of_dvd _ (Int.dvd_of_emod_eq_zero dv.2)]
theorem sum_mid (r a b c d : List Int) : sumP r (sumP r a b) (sumP r c d) = sumP r (sumP r a c) (sumP r b d) := by
  unfold sumP
  refine List.map_congr_left fun k hk => ?_
  have hk' := List.mem_range.mp hk
  rw [getD_rng hk', getD_rng hk', getD_rng hk', getD_rng hk', ← Int.add_emod, ← Int.add_emod]
  congr 1
  omega
theorem rep_zero : ∀ r ∈ RR, ∀ p ∈ placesL r, repL r p 0 = zr r := by decide +kernel
theorem sum_zr : ∀ r ∈ RR, ∀ p ∈ placesL r, sumP r p (zr r) = p := by decide +kernel
theorem rep_one : ∀ r ∈ RR, ∀ p ∈ placesL r, repL r p 1 = p := by decide +kernel
theorem cl_step {r : List Int} (h : r ∈ RR) {G : List (List Int)} (c : ClG r G) {p : List Int} (hp : p ∈ placesL r) : ClG r (sgStep r G p) := by
  unfold sgStep
  by_cases cin : p ∈ G
  · rw [if_pos cin]
    exact c
  · rw [if_neg cin]
    have eb := er_bd _ (er_in r h)
    have mem : ∀ z, z ∈ ((placesL r).filter fun z => G.any fun g => (stepsL r p).any fun s => decide (sumP r g s = z)) ↔ ∃ g ∈ G, ∃ j : Nat, j < (ordL r).toNat ∧ sumP r g (repL r p (j : Int)) = z := fun z => by
      rw [List.mem_filter, List.any_eq_true]
      constructor
      · rintro ⟨_, g, hg, x⟩
        obtain ⟨s, hs, e⟩ := List.any_eq_true.mp x
        unfold stepsL at hs
        obtain ⟨j, hj, rfl⟩ := List.mem_map.mp hs
        exact ⟨g, hg, j, List.mem_range.mp hj, of_decide_eq_true e⟩
      · rintro ⟨g, hg, j, hj, rfl⟩
        have hs : repL r p (j : Int) ∈ stepsL r p := List.mem_map.mpr ⟨j, List.mem_range.mpr hj, rfl⟩
        exact ⟨sum_in r h _ (c.sub.subset hg) _ (steps_in r h _ hp _ hs), g, hg, List.any_eq_true.mpr ⟨_, hs, decide_eq_true rfl⟩⟩
    refine ⟨List.filter_sublist, (mem _).mpr ⟨zr r, c.zero, 0, by omega, ?_⟩, fun x hx y hy => ?_⟩
    · show sumP r (zr r) (repL r p 0) = zr r
      rw [rep_zero r h p hp, sum_zr r h _ (zr_in r h)]
    · obtain ⟨g, hg, i, hi, rfl⟩ := (mem x).mp hx
      obtain ⟨g', hg', j, hj, rfl⟩ := (mem y).mp hy
      have b := Int.emod_lt_of_pos ((i : Int) + (j : Int)) (show 0 < ordL r by omega)
      have b0 := Int.emod_nonneg ((i : Int) + (j : Int)) (show ordL r ≠ 0 by omega)
      refine (mem _).mpr ⟨sumP r g g', c.add g hg g' hg', (((i : Int) + (j : Int)) % ordL r).toNat, by omega, ?_⟩
      rw [Int.toNat_of_nonneg b0, ← rep_add h, sum_mid]
theorem cl_sg {r : List Int} (h : r ∈ RR) : ∀ {ps : List (List Int)}, (∀ p ∈ ps, p ∈ placesL r) → ClG r (sgL r ps) := by
  have go : ∀ (ps : List (List Int)) (G : List (List Int)), ClG r G → (∀ p ∈ ps, p ∈ placesL r) → ClG r (ps.foldl (sgStep r) G) := by
    intro ps
    induction ps with
    | nil => exact fun G c _ => c
    | cons p ps ih => exact fun G c hp => ih _ (cl_step h c (hp p List.mem_cons_self)) fun q hq => hp q (List.mem_cons_of_mem _ hq)
  intro ps hp
  refine go ps _ ⟨List.singleton_sublist.mpr (zr_in r h), List.mem_singleton.mpr rfl, fun x hx y hy => ?_⟩ hp
  rw [List.mem_singleton.mp hx, List.mem_singleton.mp hy]
  exact List.mem_singleton.mpr (sum_zr r h _ (zr_in r h))
theorem cl_rep {r : List Int} (h : r ∈ RR) {G : List (List Int)} (c : ClG r G) {g : List Int} (hg : g ∈ G) : ∀ j : Nat, repL r g ((j : Int) % ordL r) ∈ G
  | 0 => by
    have e : ((0 : Nat) : Int) % ordL r = 0 := Int.zero_emod _
    rw [e, rep_zero r h g (c.sub.subset hg)]
    exact c.zero
  | j + 1 => by
    have ih := c.add _ (cl_rep h c hg j) _ hg
    have e : sumP r (repL r g ((j : Int) % ordL r)) g = repL r g (((j + 1 : Nat) : Int) % ordL r) := by
      have q := rep_add h g ((j : Int) % ordL r) 1
      rw [rep_one r h g (c.sub.subset hg)] at q
      rw [q, Int.emod_add_emod]
      rfl
    rw [← e]
    exact ih
theorem back_sum : ∀ r ∈ RR, ∀ x ∈ placesL r, ∀ g ∈ placesL r, sumP r (sumP r x g) (repL r g ((((ordL r).toNat - 1 : Nat) : Int) % ordL r)) = x := by decide +kernel
theorem cl_iff {r : List Int} (h : r ∈ RR) {G : List (List Int)} (c : ClG r G) {g x : List Int} (hg : g ∈ G) (hx : x ∈ placesL r) : sumP r x g ∈ G ↔ x ∈ G := by
  refine ⟨fun z => ?_, fun z => c.add x z g hg⟩
  have q := c.add _ z _ (cl_rep h c hg ((ordL r).toNat - 1))
  rw [back_sum r h x hx g (c.sub.subset hg)] at q
  exact q
end K09

/-! The voices of a row that is 1 on a subgroup. -/
namespace K09
open PySem PySem.Spec PyProof.Rows L2
def tsB (t : Int × List Int × List (List Int)) : Bool :=
  (List.range t.1.toNat).all fun m => decide (m = 0) || t.2.2.all fun col => decide (((List.range t.1.toNat).foldl (fun a i => a + col.getD (i * m % t.1.toNat) 0) 0) = 0)
theorem ts_ok : ∀ t ∈ tabs, tsB t = true := by decide +kernel
theorem sm_fold (f : Nat → Int) : ∀ n, (List.range n).foldl (fun a i => a + f i) 0 = sm n f
  | 0 => rfl
  | n + 1 => by
    rw [List.range_succ, List.foldl_append, sm_fold f n]
    rfl
/-- all multiples of a turn, but not of none, come to nothing -/
theorem ts_T {r : List Int} (h : r ∈ RR) {m : Nat} (hm : m % (ordL r).toNat ≠ 0) {j : Nat} (hj : j < dg r) : sm (ordL r).toNat (fun i => Tz (dg r) (polyL (ordL r)) j (i * m)) = 0 := by
  have he := ord_er r h
  obtain ⟨t, ht, et⟩ := er_tab _ he
  have ok := tabs_ok t ht
  have eb := er_bd _ he
  have T := tabs_of h
  have ep : polyL (ordL r) = t.2.1 := by rw [← et]; exact ok.1
  have q := ts_ok t ht
  unfold tsB at q
  rw [List.all_eq_true, et] at q
  have lm : m % (ordL r).toNat < (ordL r).toNat := Nat.mod_lt _ (by omega)
  have q1 := q (m % (ordL r).toNat) (List.mem_range.mpr lm)
  rw [Bool.or_eq_true, decide_eq_true_iff] at q1
  rcases q1 with z | q1
  · exact absurd z hm
  rw [List.all_eq_true] at q1
  have hj' : j < t.2.1.length - 1 := by rw [← ep]; exact hj
  have lc : t.2.2.length = t.2.1.length - 1 := by
    rw [ok.2]
    simp
  have hc : t.2.2.getD j [] ∈ t.2.2 := by
    rw [List.getD_eq_getElem?_getD, List.getElem?_eq_getElem (by omega)]
    exact List.getElem_mem _
  have q2 := of_decide_eq_true (q1 _ hc)
  rw [sm_fold] at q2
  refine Eq.trans (sm_congr fun i hi => ?_) q2
  have li : i * (m % (ordL r).toNat) % (ordL r).toNat < (ordL r).toNat := Nat.mod_lt _ (by omega)
  have e2 := tab_col ht hj' (i := i * (m % (ordL r).toNat) % (ordL r).toNat) (by rw [et]; omega)
  show Tz ((polyL (ordL r)).length - 1) (polyL (ordL r)) j (i * m) = _
  have e3 : Tz (dg r) (polyL (ordL r)) j (i * m) = Tz (dg r) (polyL (ordL r)) j (i * (m % (ordL r).toNat) % (ordL r).toNat) := T_eqv (e := (ordL r).toNat) (T.per j hj) (by rw [Nat.mod_mod, Nat.mul_mod, Nat.mul_mod i (m % _), Nat.mod_mod])
  refine Eq.trans e3 ?_
  show Tz ((polyL (ordL r)).length - 1) (polyL (ordL r)) j _ = _
  rw [ep]
  exact e2.symm
theorem ts_shift {r : List Int} (h : r ∈ RR) {m : Nat} (hm : m % (ordL r).toNat ≠ 0) (a : Nat) {j : Nat} (hj : j < dg r) : sm (ordL r).toNat (fun i => Tz (dg r) (polyL (ordL r)) j (a + i * m)) = 0 := by
  have T := tabs_of h
  have e : ∀ i, i < (ordL r).toNat → Tz (dg r) (polyL (ordL r)) j (a + i * m) = sm (dg r) (fun k => Tz (dg r) (polyL (ordL r)) k (i * m) * Tz (dg r) (polyL (ordL r)) j (a + k)) := fun i _ => (tn_T _ _ _ _ T.d1 _).symm
  rw [sm_congr e, sm_swap]
  refine Eq.trans (sm_congr (g := fun _ => 0) fun k hk => ?_) (sm_zero _)
  rw [sm_mulR, ts_T h hm hk, Int.zero_mul]
/-- one on a lot, else zero -/
def indL (r : List Int) (G : List (List Int)) : List Int := (placesL r).map fun x => if x ∈ G then 1 else 0
def indX (r : List Int) (G : List (List Int)) (i : Nat) : Int := if pl r i ∈ G then 1 else 0
/-- the labels that pair to 0 with all of a lot -/
def acrB (r : List Int) (G : List (List Int)) (l : List Int) : Bool := G.all fun x => decide (pairL r (ordL r) x l = 0)
def acrL (r : List Int) (G : List (List Int)) : List (List Int) := (placesL r).filter fun l => acrB r G l
/-- the sum of the turns of a lot -/
def sgS (r : List Int) (G : List (List Int)) (l : List Int) (a j : Nat) : Int := sm (placesL r).length (fun i => indX r G i * Tz (dg r) (polyL (ordL r)) j (a + pw r (ordL r) 1 (pl r i) l))
theorem sg_inv {r : List Int} (h : r ∈ RR) {G : List (List Int)} (c : ClG r G) {g l : List Int} (hg : g ∈ G) (a : Nat) {j : Nat} (hj : j < dg r) : sgS r G l a j = sgS r G l (a + (pairL r (ordL r) g l % ordL r).toNat) j := by
  have hs := c.sub.subset hg
  have T := tabs_of h
  have e := sm_reidx (f := fun i => indX r G i * Tz (dg r) (polyL (ordL r)) j (a + pw r (ordL r) 1 (pl r i) l)) (σ := fwI r g) (τ := mvI r g) (n := (placesL r).length) (fun b hb => (fw_ok h hs hb).1) (fun b hb => (fw_ok h hs hb).2.2) (fun a ha => mv_ok h hs ha)
  refine Eq.trans e.symm ?_
  refine sm_congr fun b hb => ?_
  have f := fw_ok h hs hb
  have p := at_pl hb
  have e1 : indX r G (fwI r g b) = indX r G b := by
    unfold indX
    show (if (placesL r).getD (fwI r g b) [] ∈ G then (1 : Int) else 0) = _
    rw [f.2.1]
    by_cases z : pl r b ∈ G
    · rw [if_pos z, if_pos ((cl_iff h c hg p.2).mpr z)]
    · rw [if_neg z, if_neg (fun y => z ((cl_iff h c hg p.2).mp y))]
  show indX r G (fwI r g b) * Tz (dg r) (polyL (ordL r)) j (a + pw r (ordL r) 1 ((placesL r).getD (fwI r g b) []) l) = _
  rw [e1, f.2.1]
  congr 1
  refine T_eqv (e := (ordL r).toNat) (T.per j hj) ?_
  rw [Nat.add_mod, pw_sum h p.2 hs, ← Nat.add_mod, Nat.add_assoc]
theorem sg_inv_many {r : List Int} (h : r ∈ RR) {G : List (List Int)} (c : ClG r G) {g l : List Int} (hg : g ∈ G) {j : Nat} (hj : j < dg r) : ∀ t : Nat, sgS r G l 0 j = sgS r G l (t * (pairL r (ordL r) g l % ordL r).toNat) j
  | 0 => by rw [Nat.zero_mul]
  | t + 1 => by
    rw [sg_inv_many h c hg hj t, sg_inv h c hg _ hj]
    congr 1
    rw [Nat.add_mul, Nat.one_mul]
theorem pair_ok : ∀ r ∈ RR, ∀ x ∈ placesL r, ∀ l ∈ placesL r, 0 ≤ pairL r (ordL r) x l ∧ pairL r (ordL r) x l < ordL r := by decide +kernel
theorem sg_out {r : List Int} (h : r ∈ RR) {G : List (List Int)} (c : ClG r G) {g l : List Int} (hg : g ∈ G) (hl : l ∈ placesL r) (hne : pairL r (ordL r) g l ≠ 0) {j : Nat} (hj : j < dg r) : sgS r G l 0 j = 0 := by
  have eb := er_bd _ (er_in r h)
  have pb := pair_ok r h g (c.sub.subset hg) l hl
  have em : pairL r (ordL r) g l % ordL r = pairL r (ordL r) g l := Int.emod_eq_of_lt pb.1 pb.2
  have inv := sg_inv_many (l := l) h c hg hj
  rw [em] at inv
  generalize hm : (pairL r (ordL r) g l).toNat = m at inv
  have m0 : m % (ordL r).toNat ≠ 0 := by
    rw [Nat.mod_eq_of_lt (by omega)]
    omega
  have tot : sm (ordL r).toNat (fun t => sgS r G l (t * m) j) = 0 := by
    unfold sgS
    rw [sm_swap]
    refine Eq.trans (sm_congr (g := fun _ => 0) fun i _ => ?_) (sm_zero _)
    rw [sm_mul]
    have e : sm (ordL r).toNat (fun t => Tz (dg r) (polyL (ordL r)) j (t * m + pw r (ordL r) 1 (pl r i) l)) = 0 := by
      refine Eq.trans (sm_congr fun t _ => ?_) (ts_shift h m0 (pw r (ordL r) 1 (pl r i) l) hj)
      rw [Nat.add_comm]
    rw [e, Int.mul_zero]
  rw [← sm_congr (fun t _ => inv t)] at tot
  have cst : ∀ n : Nat, sm n (fun _ => sgS r G l 0 j) = (n : Int) * sgS r G l 0 j := fun n => by
    induction n with
    | zero => show (0 : Int) = _; simp
    | succ n ih =>
      show sm n (fun _ => sgS r G l 0 j) + sgS r G l 0 j = _
      rw [ih, Int.natCast_add, Int.add_mul]
      show _ = _ + 1 * sgS r G l 0 j
      rw [Int.one_mul]
  rw [cst] at tot
  rcases Int.mul_eq_zero.mp tot with z | z
  · omega
  · exact z
theorem ind_len {r : List Int} (h : r ∈ RR) {G : List (List Int)} (hG : G.Sublist (placesL r)) : sm (placesL r).length (indX r G) = ((G.length : Nat) : Int) := by
  have go : ∀ m, m ≤ (placesL r).length → sm m (indX r G) = ((((placesL r).take m).filter fun x => decide (x ∈ G)).length : Nat) := by
    intro m
    induction m with
    | zero => intro _; rfl
    | succ m ih =>
      intro hm
      have g := (at_pl (show m < (placesL r).length by omega)).1
      rw [takeS g, List.filter_append, List.length_append]
      show sm m (indX r G) + indX r G m = _
      rw [ih (by omega)]
      unfold indX
      by_cases z : pl r m ∈ G
      · rw [if_pos z, List.filter_cons_of_pos (by exact decide_eq_true z)]
        rfl
      · rw [if_neg z, List.filter_cons_of_neg (by simpa using z)]
        rfl
  have q := go _ (Nat.le_refl _)
  rw [List.take_length] at q
  rw [q]
  have pm : ((placesL r).filter fun x => decide (x ∈ G)).Perm G := (List.perm_ext_iff_of_nodup ((rr_nd r h).sublist List.filter_sublist) ((rr_nd r h).sublist hG)).mpr fun z => by
    rw [List.mem_filter, decide_eq_true_iff]
    exact ⟨fun x => x.2, fun x => ⟨hG.subset x, x⟩⟩
  rw [pm.length_eq]
theorem sg_in {r : List Int} (h : r ∈ RR) {G : List (List Int)} (c : ClG r G) {l : List Int} (ha : acrB r G l = true) {j : Nat} (hj : j < dg r) : sgS r G l 0 j = if j = 0 then ((G.length : Nat) : Int) else 0 := by
  have d1 := (tabs_of h).d1
  have e : ∀ i, i < (placesL r).length → indX r G i * Tz (dg r) (polyL (ordL r)) j (0 + pw r (ordL r) 1 (pl r i) l) = indX r G i * (if j = 0 then 1 else 0) := fun i _ => by
    unfold indX
    by_cases z : pl r i ∈ G
    · rw [if_pos z]
      unfold acrB at ha
      rw [List.all_eq_true] at ha
      have p0 := of_decide_eq_true (ha _ z)
      unfold pw
      rw [p0, Int.mul_zero, Int.zero_emod]
      show (1 : Int) * Tz _ _ j 0 = _
      rw [T_lo (show 0 < dg r by omega)]
      by_cases y : j = 0
      · rw [if_pos y.symm, if_pos y]
      · rw [if_neg (fun q => y q.symm), if_neg y]
    · rw [if_neg z, Int.zero_mul, Int.zero_mul]
  unfold sgS
  rw [sm_congr e, sm_mulR, ind_len h c.sub]
  split
  · exact Int.mul_one _
  · exact Int.mul_zero _
theorem acr_out {r : List Int} {G : List (List Int)} {l : List Int} (ha : ¬ acrB r G l = true) : ∃ g ∈ G, pairL r (ordL r) g l ≠ 0 := by
  unfold acrB at ha
  rw [List.all_eq_true] at ha
  by_cases z : ∃ g ∈ G, pairL r (ordL r) g l ≠ 0
  · exact z
  · refine absurd (fun g hg => ?_) ha
    by_cases y : pairL r (ordL r) g l = 0
    · exact decide_eq_true y
    · exact absurd ⟨g, hg, y⟩ z
theorem sg_all {r : List Int} (h : r ∈ RR) {G : List (List Int)} (c : ClG r G) {l : List Int} (hl : l ∈ placesL r) {j : Nat} (hj : j < dg r) : sgS r G l 0 j = if j = 0 then (if acrB r G l = true then ((G.length : Nat) : Int) else 0) else 0 := by
  by_cases ha : acrB r G l = true
  · rw [sg_in h c ha hj, if_pos ha]
  · obtain ⟨g, hg, hne⟩ := acr_out ha
    rw [sg_out h c hg hl hne hj, if_neg ha]
    split <;> rfl
/-- the voices of the row that is 1 on a subgroup -/
def sdueL (r : List Int) (G : List (List Int)) : List Num := (placesL r).map fun l => whN r (if acrB r G l = true then ((G.length : Nat) : Int) else 0)
theorem rowC_rof {r : List Int} (h : r ∈ RR) {xs : List Int} (hl : xs.length = (placesL r).length) : RowC r (rofL r xs) := by
  refine ⟨by unfold rofL; rw [List.length_map, hl], fun n hn => ?_⟩
  obtain ⟨x, _, rfl⟩ := List.mem_map.mp hn
  exact numC_wh h x
theorem Rp_rof {r : List Int} (h : r ∈ RR) {xs : List Int} {i : Nat} {n : Num} (hn : (rofL r xs)[i]? = some n) : Rp (dg r) n 1 (fun k => if k = 0 then xs.getD i 0 else 0) := by
  unfold rofL at hn
  rw [List.getElem?_map] at hn
  obtain ⟨x, hx, rfl⟩ := Option.map_eq_some_iff.mp hn
  intro k hk
  have e : xs.getD i 0 = x := by
    rw [List.getD_eq_getElem?_getD, hx]
    rfl
  show (whN r x).2 * (if k = 0 then xs.getD i 0 else 0) = 1 * (whN r x).1.getD k 0
  rw [wh_get h x hk, e]
  rfl
theorem ind_getD {r : List Int} {G : List (List Int)} {i : Nat} (hi : i < (placesL r).length) : (indL r G).getD i 0 = indX r G i := by
  unfold indL
  rw [List.getD_eq_getElem?_getD, List.getElem?_map, (at_pl hi).1]
  rfl
/-- the voices of a row of whole numbers -/
theorem Tq_whole {r : List Int} (h : r ∈ RR) (l : List Int) (f : Nat → Int) (j : Nat) : Tq r 1 l (fun i k => if k = 0 then f i else 0) j = sm (placesL r).length (fun i => f i * Tz (dg r) (polyL (ordL r)) j (0 + pw r (ordL r) 1 (pl r i) l)) := by
  have d1 := (tabs_of h).d1
  refine sm_congr fun i _ => ?_
  have a : tn (dg r) (polyL (ordL r)) (pw r (ordL r) 1 ((placesL r).getD i []) l) (fun k => if k = 0 then f i else 0) j = sm (dg r) (fun k => if k = 0 then f i * Tz (dg r) (polyL (ordL r)) j (pw r (ordL r) 1 ((placesL r).getD i []) l + k) else 0) := sm_congr fun k _ => by
    show (if k = 0 then f i else 0) * _ = _
    split
    · rfl
    · exact Int.zero_mul _
  rw [a, sm_delta (f := fun k => f i * Tz (dg r) (polyL (ordL r)) j (pw r (ordL r) 1 ((placesL r).getD i []) l + k)), if_pos (by omega), Nat.add_zero, Nat.zero_add]
theorem vo_ind {r : List Int} (h : r ∈ RR) {G : List (List Int)} (c : ClG r G) : voL r (rofL r (indL r G)) = sdueL r G := by
  have lI : (indL r G).length = (placesL r).length := by unfold indL; rw [List.length_map]
  have C := rowC_rof h lI
  have CD : RowC r (sdueL r G) := by
    refine ⟨by unfold sdueL; rw [List.length_map], fun n hn => ?_⟩
    obtain ⟨l, _, rfl⟩ := List.mem_map.mp hn
    exact numC_wh h _
  refine rows_eq (rowC_vo h C) CD (Int.le_refl 1) (w := fun i k => if k = 0 then (if acrB r G (pl r i) = true then ((G.length : Nat) : Int) else 0) else 0) (fun i n hn => ?_) (fun i n hn => ?_)
  · have hi := (voL_get hn).1
    have q := Rp_vo h C (Int.le_refl 1) (w := fun i k => if k = 0 then (indL r G).getD i 0 else 0) (fun a b hb => Rp_rof h hb) hn
    refine Rp_congr (fun k hk => ?_) q
    rw [Tq_whole h]
    have e : sm (placesL r).length (fun i' => (indL r G).getD i' 0 * Tz (dg r) (polyL (ordL r)) k (0 + pw r (ordL r) 1 (pl r i') (pl r i))) = sgS r G (pl r i) 0 k := sm_congr fun i' hi' => by rw [ind_getD hi']
    rw [e, sg_all h c (at_pl hi).2 hk]
  · unfold sdueL at hn
    rw [List.getElem?_map] at hn
    obtain ⟨l, hl, rfl⟩ := Option.map_eq_some_iff.mp hn
    have e : pl r i = l := by
      show (placesL r).getD i [] = l
      rw [List.getD_eq_getElem?_getD, hl]
      rfl
    rw [e]
    intro k hk
    show (whN r _).2 * _ = 1 * (whN r _).1.getD k 0
    rw [wh_get h _ hk]
    rfl
theorem pl_zero : ∀ r ∈ RR, pl r 0 = zr r := by decide +kernel
/-- as many places as labels across -/
theorem sg_count {r : List Int} (h : r ∈ RR) {G : List (List Int)} (c : ClG r G) : (G.length : Int) * ((acrL r G).length : Nat) = ((placesL r).length : Nat) := by
  have B := tabs_of h
  have d1 := B.d1
  have hp := pl_pos r h
  have a : sm (placesL r).length (fun li => sgS r G (pl r li) 0 0) = (G.length : Int) * ((acrL r G).length : Nat) := by
    have e : ∀ li, li < (placesL r).length → sgS r G (pl r li) 0 0 = (G.length : Int) * indX r (acrL r G) li := fun li hli => by
      rw [sg_all h c (at_pl hli).2 (by omega), if_pos rfl]
      unfold indX
      by_cases z : acrB r G (pl r li) = true
      · have y : pl r li ∈ acrL r G := List.mem_filter.mpr ⟨(at_pl hli).2, z⟩
        rw [if_pos z, if_pos y, Int.mul_one]
      · have y : pl r li ∉ acrL r G := fun y => z (List.mem_filter.mp y).2
        rw [if_neg z, if_neg y, Int.mul_zero]
    rw [sm_congr e, sm_mul, ind_len h (G := acrL r G) List.filter_sublist]
  have b : sm (placesL r).length (fun li => sgS r G (pl r li) 0 0) = ((placesL r).length : Nat) := by
    unfold sgS
    rw [sm_swap]
    have e : ∀ i, i < (placesL r).length → sm (placesL r).length (fun li => indX r G i * Tz (dg r) (polyL (ordL r)) 0 (0 + pw r (ordL r) 1 (pl r i) (pl r li))) = if i = 0 then ((placesL r).length : Int) else 0 := fun i hi => by
      rw [sm_mul]
      have o := B.orth i hi 0 (by omega)
      have e2 : sm (placesL r).length (fun li => Tz (dg r) (polyL (ordL r)) 0 (0 + pw r (ordL r) 1 (pl r i) (pl r li))) = sm (placesL r).length (fun li => Tz (dg r) (polyL (ordL r)) 0 (pairL r (ordL r) ((placesL r).getD i []) ((placesL r).getD li [])).toNat) := sm_congr fun li _ => by
        unfold pw
        rw [Int.one_mul, pair_mod B.e0, Nat.zero_add]
      rw [e2, o]
      by_cases z : i = 0
      · rw [if_pos z, if_pos z, if_pos rfl, Int.mul_one]
        unfold indX
        rw [z, pl_zero r h, if_pos c.zero, Int.one_mul]
      · rw [if_neg z, if_neg z, Int.mul_zero]
    rw [sm_congr e, sm_delta (f := fun _ => ((placesL r).length : Int)), if_pos (by omega)]
  rw [← a, b]
end K09

/-! Two rings beside one another. -/
namespace K09
open PySem PySem.Spec PyProof.Rows L2
def BL : List (Nat × Nat) := [(2, 2), (2, 3), (3, 2), (2, 4), (4, 2), (3, 3), (2, 5), (3, 4), (2, 6), (2, 8)]
abbrev r2 (a b : Nat) : List Int := [(a : Int), (b : Int)]
abbrev r1 (a : Nat) : List Int := [(a : Int)]
theorem bl_ok : ∀ ab ∈ BL, r2 ab.1 ab.2 ∈ RR ∧ r1 ab.1 ∈ RR ∧ r1 ab.2 ∈ RR ∧ ordL (r1 ab.1) = ab.1 ∧ ordL (r1 ab.2) = ab.2 ∧ ordL (r2 ab.1 ab.2) % (ab.1 : Int) = 0 ∧ ordL (r2 ab.1 ab.2) % (ab.2 : Int) = 0 ∧ (placesL (r2 ab.1 ab.2)).length = ab.1 * ab.2 ∧ (placesL (r1 ab.1)).length = ab.1 ∧ (placesL (r1 ab.2)).length = ab.2 ∧ 1 ≤ ab.1 ∧ 1 ≤ ab.2 := by decide +kernel
/-! ### lifting -/
def lfB (t t' : Int × List Int × List (List Int)) : Bool :=
  decide (t.1 % t'.1 ≠ 0) || (List.range t'.1.toNat).all fun p => t.2.2.all fun col => decide (((List.range t'.2.2.length).foldl (fun s m => s + (t'.2.2.getD m []).getD p 0 * col.getD (((m : Int) * (t.1 / t'.1)) % t.1).toNat 0) 0) = col.getD (((p : Int) * (t.1 / t'.1)) % t.1).toNat 0)
theorem lf_ok : ∀ t ∈ tabs, ∀ t' ∈ tabs, lfB t t' = true := by decide +kernel
/-- a vector of one order as a vector of another -/
def lfv (r q : List Int) (w : Nat → Int) (j : Nat) : Int := sm (dg q) (fun m => w m * Tz (dg r) (polyL (ordL r)) j (((m : Int) * (ordL r / ordL q)) % ordL r).toNat)
theorem lf_T {r q : List Int} (hr : r ∈ RR) (hq : q ∈ RR) (hd : ordL r % ordL q = 0) {p : Nat} (hp : p < (ordL q).toNat) {j : Nat} (hj : j < dg r) : lfv r q (fun k => Tz (dg q) (polyL (ordL q)) k p) j = Tz (dg r) (polyL (ordL r)) j (((p : Int) * (ordL r / ordL q)) % ordL r).toNat := by
  have he := ord_er r hr
  have hf := ord_er q hq
  obtain ⟨t, ht, et⟩ := er_tab _ he
  obtain ⟨t', ht', et'⟩ := er_tab _ hf
  have ok := tabs_ok t ht
  have ok' := tabs_ok t' ht'
  have eb := er_bd _ he
  have ep : polyL (ordL r) = t.2.1 := by rw [← et]; exact ok.1
  have ep' : polyL (ordL q) = t'.2.1 := by rw [← et']; exact ok'.1
  have k := lf_ok t ht t' ht'
  unfold lfB at k
  rw [et, et', Bool.or_eq_true, decide_eq_true_iff] at k
  rcases k with z | k
  · exact absurd hd z
  rw [List.all_eq_true] at k
  have k1 := k p (List.mem_range.mpr hp)
  rw [List.all_eq_true] at k1
  have hj' : j < t.2.1.length - 1 := by rw [← ep]; exact hj
  have lc : t.2.2.length = t.2.1.length - 1 := by
    rw [ok.2]
    simp
  have lc' : t'.2.2.length = t'.2.1.length - 1 := by
    rw [ok'.2]
    simp
  have hc : t.2.2.getD j [] ∈ t.2.2 := by
    rw [List.getD_eq_getElem?_getD, List.getElem?_eq_getElem (by omega)]
    exact List.getElem_mem _
  have k2 := of_decide_eq_true (k1 _ hc)
  rw [sm_fold] at k2
  have md : ∀ x : Int, (x % ordL r).toNat < (ordL r).toNat := fun x => by
    have := Int.emod_nonneg x (show ordL r ≠ 0 by omega)
    have := Int.emod_lt_of_pos x (show 0 < ordL r by omega)
    omega
  have c1 : ∀ x : Int, (t.2.2.getD j []).getD (x % ordL r).toNat 0 = Tz (dg r) (polyL (ordL r)) j (x % ordL r).toNat := fun x => by
    show _ = Tz ((polyL (ordL r)).length - 1) (polyL (ordL r)) j _
    rw [ep]
    exact tab_col ht hj' (by rw [et]; have := md x; omega)
  have c2 : ∀ m, m < dg q → (t'.2.2.getD m []).getD p 0 = Tz (dg q) (polyL (ordL q)) m p := fun m hm => by
    show _ = Tz ((polyL (ordL q)).length - 1) (polyL (ordL q)) m p
    have hm' : m < (polyL (ordL q)).length - 1 := hm
    rw [ep'] at hm' ⊢
    exact tab_col ht' hm' (by rw [et']; omega)
  rw [c1] at k2
  refine Eq.trans ?_ k2
  have dq : dg q = t'.2.2.length := by
    rw [lc', ← ep']
  unfold lfv
  rw [dq]
  refine sm_congr fun m hm => ?_
  rw [c1, c2 m (by rw [dq]; exact hm), dq]
theorem numC_lift {r q : List Int} (hr : r ∈ RR) {n : Num} (c : NumC (dg q) n) : NumC (dg r) (liftL (ordL q) (ordL r) n) := numC_low c.pos (exT_len (by have := poly_len hr; omega))
theorem Rp_lift {r q : List Int} (hr : r ∈ RR) {n : Num} {M : Int} {w : Nat → Int} (c : NumC (dg q) n) (ra : Rp (dg q) n M w) : Rp (dg r) (liftL (ordL q) (ordL r) n) M (lfv r q w) := by
  have eb := er_bd _ (ord_er r hr)
  have hp := poly_len hr
  refine Rp_of_low c.pos fun j hj => ?_
  rw [exT_co (by omega) (by omega) hj, c.len]
  unfold lfv
  rw [← sm_mul, ← sm_mul]
  refine sm_congr fun m hm => ?_
  rw [← Int.mul_assoc, ← Int.mul_assoc, ra m hm]
theorem lfv_sm {r q : List Int} (n : Nat) (f : Nat → Nat → Int) (j : Nat) : lfv r q (fun k => sm n (fun i => f i k)) j = sm n (fun i => lfv r q (f i) j) := by
  unfold lfv
  rw [← sm_swap]
  exact sm_congr fun m _ => by rw [← sm_mulR]
theorem lfv_mul {r q : List Int} (c : Int) (w : Nat → Int) (j : Nat) : lfv r q (fun k => c * w k) j = c * lfv r q w j := by
  unfold lfv
  rw [← sm_mul]
  exact sm_congr fun m _ => Int.mul_assoc _ _ _
theorem lfv_congr {r q : List Int} {v w : Nat → Int} (h : ∀ k, k < dg q → v k = w k) (j : Nat) : lfv r q v j = lfv r q w j := sm_congr fun m hm => by rw [h m hm]
/-! ### sums in blocks -/
theorem sm_app (f : Nat → Int) (m : Nat) : ∀ n, sm (m + n) f = sm m f + sm n (fun i => f (m + i))
  | 0 => by show sm m f = sm m f + 0; omega
  | n + 1 => by
    show sm (m + n) f + f (m + n) = sm m f + (sm n (fun i => f (m + i)) + f (m + n))
    rw [sm_app f m n]
    omega
theorem sm_blocks (f : Nat → Int) (b : Nat) : ∀ a, sm (a * b) f = sm a (fun x => sm b (fun y => f (x * b + y)))
  | 0 => by rw [Nat.zero_mul]; rfl
  | a + 1 => by
    rw [Nat.add_mul, Nat.one_mul, sm_app, sm_blocks f b a]
    rfl
/-! ### a voice on two rings -/
theorem numC_vo1 {r : List Int} (h : r ∈ RR) {xs : List Int} (hl : xs.length = (placesL r).length) (l : List Int) : NumC (dg r) (lowL (tsL r 1 l (levT (rofL r xs))) (levB (rofL r xs))) := by
  have q := numC_ts h (rowC_rof h hl) 1 l (Int.le_refl 1)
  rw [Int.mul_one] at q
  exact q
theorem Rp_vo1 {r : List Int} (h : r ∈ RR) {xs : List Int} (hl : xs.length = (placesL r).length) (l : List Int) : Rp (dg r) (lowL (tsL r 1 l (levT (rofL r xs))) (levB (rofL r xs))) 1 (fun j => sm (placesL r).length (fun i => xs.getD i 0 * Tz (dg r) (polyL (ordL r)) j (0 + pw r (ordL r) 1 (pl r i) l))) := by
  have q := Rp_ts h (rowC_rof h hl) 1 l (Int.le_refl 1) (Int.le_refl 1) (w := fun i k => if k = 0 then xs.getD i 0 else 0) (fun i n e => Rp_rof h e)
  rw [Int.mul_one, Int.mul_one] at q
  exact Rp_congr (fun k hk => Tq_whole h l _ k) q
/-! ### the law's sums -/
/-- what the law adds for one place of the first ring -/
def bsNear (a b : Nat) (xs : List Int) (l : List Int) (x : Nat) : Num := lowL (tsL (r1 b) 1 l (levT (rofL (r1 b) ((xs.drop (x * b)).take b)))) (levB (rofL (r1 b) ((xs.drop (x * b)).take b)))
def bsItem (a b : Nat) (xs : List Int) (k : Nat) (l : List Int) (x : Nat) : Num := prodL (ordL (r2 a b)) (liftL (b : Int) (ordL (r2 a b)) (bsNear a b xs l x)) (turnL (ordL (r2 a b)) ((x : Int) * (k : Int) * (ordL (r2 a b) / (a : Int))))
def bsL (a b : Nat) (xs : List Int) (k : Nat) (l : List Int) : List Num := (List.range a).map (bsItem a b xs k l)
theorem bs_pw : ∀ ab ∈ BL, ∀ x ∈ List.range ab.1, ∀ y ∈ List.range ab.2, ∀ k ∈ List.range ab.1, ∀ l ∈ List.range ab.2,
    ((((x : Int) * (k : Int) * (ordL (r2 ab.1 ab.2) / (ab.1 : Int))) % ordL (r2 ab.1 ab.2)).toNat + (((((0 + pw (r1 ab.2) (ordL (r1 ab.2)) 1 (pl (r1 ab.2) y) [(l : Int)] : Nat)) : Int) * (ordL (r2 ab.1 ab.2) / ordL (r1 ab.2))) % ordL (r2 ab.1 ab.2)).toNat) % (ordL (r2 ab.1 ab.2)).toNat = (0 + pw (r2 ab.1 ab.2) (ordL (r2 ab.1 ab.2)) 1 (pl (r2 ab.1 ab.2) (x * ab.2 + y)) [(k : Int), (l : Int)]) % (ordL (r2 ab.1 ab.2)).toNat := by decide +kernel
theorem bs_lt : ∀ ab ∈ BL, ∀ y ∈ List.range ab.2, ∀ l ∈ List.range ab.2, 0 + pw (r1 ab.2) (ordL (r1 ab.2)) 1 (pl (r1 ab.2) y) [(l : Int)] < (ordL (r1 ab.2)).toNat := by decide +kernel
theorem slice_get {xs : List Int} {a b x y : Nat} (hx : x < a) (hy : y < b) (hl : xs.length = a * b) : ((xs.drop (x * b)).take b).getD y 0 = xs.getD (x * b + y) 0 := by
  rw [List.getD_eq_getElem?_getD, List.getD_eq_getElem?_getD, List.getElem?_take, if_pos hy, List.getElem?_drop]
theorem slice_len {xs : List Int} {a b x : Nat} (hx : x < a) (hl : xs.length = a * b) : ((xs.drop (x * b)).take b).length = b := by
  rw [List.length_take, List.length_drop, hl]
  have : (x + 1) * b ≤ a * b := Nat.mul_le_mul_right b hx
  rw [Nat.add_mul, Nat.one_mul] at this
  omega
theorem bs_reps {a b : Nat} (hab : (a, b) ∈ BL) {xs : List Int} (hl : xs.length = a * b) {k l : Nat} (hk : k < a) (hlb : l < b) :
    Reps (r2 a b) (bsL a b xs k [(l : Int)]) 1 (fun x j => sm b (fun y => xs.getD (x * b + y) 0 * Tz (dg (r2 a b)) (polyL (ordL (r2 a b))) j (0 + pw (r2 a b) (ordL (r2 a b)) 1 (pl (r2 a b) (x * b + y)) [(k : Int), (l : Int)]))) := by
  obtain ⟨h2, ha, hb, oa, ob, da, db, l2, la, lb, a1, b1⟩ := bl_ok _ hab
  dsimp only at h2 ha hb oa ob da db l2 la lb a1 b1
  have T := tabs_of h2
  have near : ∀ x, x < a → NumC (dg (r1 b)) (bsNear a b xs [(l : Int)] x) ∧ Rp (dg (r1 b)) (bsNear a b xs [(l : Int)] x) 1 (fun j => sm b (fun y => xs.getD (x * b + y) 0 * Tz (dg (r1 b)) (polyL (ordL (r1 b))) j (0 + pw (r1 b) (ordL (r1 b)) 1 (pl (r1 b) y) [(l : Int)]))) := fun x hx => by
    have sl := slice_len hx hl
    refine ⟨numC_vo1 hb (by rw [sl, lb]) _, ?_⟩
    have q := Rp_vo1 hb (xs := (xs.drop (x * b)).take b) (by rw [sl, lb]) [(l : Int)]
    rw [lb] at q
    exact Rp_congr (fun j _ => sm_congr fun y hy => by rw [slice_get hx hy hl]) q
  have db' : ordL (r2 a b) % ordL (r1 b) = 0 := by rw [ob]; exact db
  have eb : (liftL (b : Int) (ordL (r2 a b))) = liftL (ordL (r1 b)) (ordL (r2 a b)) := by rw [ob]
  have item : ∀ x, x < a → NumC (dg (r2 a b)) (bsItem a b xs k [(l : Int)] x) ∧ Rp (dg (r2 a b)) (bsItem a b xs k [(l : Int)] x) 1 (fun j => sm b (fun y => xs.getD (x * b + y) 0 * Tz (dg (r2 a b)) (polyL (ordL (r2 a b))) j (0 + pw (r2 a b) (ordL (r2 a b)) 1 (pl (r2 a b) (x * b + y)) [(k : Int), (l : Int)]))) := fun x hx => by
    obtain ⟨cn, rn⟩ := near x hx
    have cl := numC_lift (r := r2 a b) h2 cn
    have rl := Rp_lift (r := r2 a b) h2 cn rn
    unfold bsItem
    rw [eb]
    refine ⟨numC_prod h2 cl (numC_turn h2 _), ?_⟩
    have q := Rp_turn h2 cl rl ((x : Int) * (k : Int) * (ordL (r2 a b) / (a : Int)))
    refine Rp_congr (fun j hj => ?_) q
    have e1 : ∀ i, i < dg (r2 a b) → lfv (r2 a b) (r1 b) (fun j => sm b (fun y => xs.getD (x * b + y) 0 * Tz (dg (r1 b)) (polyL (ordL (r1 b))) j (0 + pw (r1 b) (ordL (r1 b)) 1 (pl (r1 b) y) [(l : Int)]))) i = sm b (fun y => xs.getD (x * b + y) 0 * Tz (dg (r2 a b)) (polyL (ordL (r2 a b))) i (((((0 + pw (r1 b) (ordL (r1 b)) 1 (pl (r1 b) y) [(l : Int)] : Nat)) : Int) * (ordL (r2 a b) / ordL (r1 b))) % ordL (r2 a b)).toNat) := fun i hi => by
      rw [lfv_sm]
      refine sm_congr fun y hy => ?_
      rw [lfv_mul, lf_T h2 hb db' (bs_lt _ hab y (List.mem_range.mpr hy) l (List.mem_range.mpr hlb)) hi]
    rw [tn_congr e1, tn_sm]
    refine sm_congr fun y hy => ?_
    rw [tn_mul, tn_T _ _ _ _ T.d1]
    congr 1
    exact T_eqv (e := (ordL (r2 a b)).toNat) (T.per j hj) (bs_pw _ hab x (List.mem_range.mpr hx) y (List.mem_range.mpr hy) k (List.mem_range.mpr hk) l (List.mem_range.mpr hlb))
  refine ⟨fun n hn => ?_, fun i n hn => ?_⟩
  · obtain ⟨x, hx, rfl⟩ := List.mem_map.mp hn
    exact (item x (List.mem_range.mp hx)).1
  · unfold bsL at hn
    rw [List.getElem?_map] at hn
    obtain ⟨x, hx, rfl⟩ := Option.map_eq_some_iff.mp hn
    have xl := ltL hx
    rw [List.length_range] at xl
    rw [List.getElem?_range xl] at hx
    cases hx
    exact (item i xl).2
/-- a voice on two rings by the voices on the second -/
theorem beside {a b : Nat} (hab : (a, b) ∈ BL) {xs : List Int} (hl : xs.length = a * b) {k l : Nat} (hk : k < a) (hlb : l < b) :
    lowL (tsL (r2 a b) 1 [(k : Int), (l : Int)] (levT (rofL (r2 a b) xs))) (levB (rofL (r2 a b) xs)) = totL (r2 a b) (bsL a b xs k [(l : Int)]) := by
  obtain ⟨h2, ha, hb, oa, ob, da, db, l2, la, lb, a1, b1⟩ := bl_ok _ hab
  dsimp only at h2 l2
  have R := bs_reps hab hl hk hlb
  have q := reps_tot R (Int.le_refl 1) _ (Nat.le_refl _)
  have c := numC_tot R.c (bsL a b xs k [(l : Int)]).length
  rw [List.take_length] at q c
  have len : (bsL a b xs k [(l : Int)]).length = a := by unfold bsL; rw [List.length_map, List.length_range]
  rw [len] at q
  have v := Rp_vo1 h2 (xs := xs) (by rw [hl, l2]) [(k : Int), (l : Int)]
  rw [l2] at v
  refine Rp_eq (Int.le_refl 1) (numC_vo1 h2 (by rw [hl, l2]) _) c (Rp_congr (fun j _ => ?_) v) q
  exact sm_blocks _ b a
end K09

/-! A row along one ring alone. -/
namespace K09
open PySem PySem.Spec PyProof.Rows L2
def flatL (a b : Nat) (ws : List Int) : List Int := (List.range a).flatMap fun x => ws.getD x 0 :: List.replicate (b - 1) 0
def fdue (a b : Nat) (vs : List Num) : List Num := vs.flatMap fun s => List.replicate b (liftL (a : Int) (ordL (r2 a b)) s)
theorem fm_get {α β : Type} {b : Nat} (hb : 1 ≤ b) (f : α → β) : ∀ (l : List α) (i : Nat), (l.flatMap fun s => List.replicate b (f s))[i]? = (l[i / b]?).map f
  | [], i => by simp
  | s :: l, i => by
    rw [List.flatMap_cons]
    by_cases h : i < b
    · rw [List.getElem?_append_left (by rw [List.length_replicate]; exact h), List.getElem?_replicate, if_pos h, Nat.div_eq_of_lt h]
      rfl
    · rw [List.getElem?_append_right (by rw [List.length_replicate]; omega), List.length_replicate, fm_get hb f l (i - b)]
      have e : i / b = (i - b) / b + 1 := by
        have := Nat.add_div_right (i - b) (show 0 < b by omega)
        rw [show i - b + b = i by omega] at this
        omega
      rw [e, List.getElem?_cons_succ]
theorem flat_len {a b : Nat} (hb : 1 ≤ b) (ws : List Int) : (flatL a b ws).length = a * b := by
  unfold flatL
  induction a with
  | zero => simp
  | succ a ih =>
    rw [List.range_succ, List.flatMap_append, List.length_append, ih, Nat.add_mul]
    simp
    omega
theorem flat_get {a b : Nat} (hb : 1 ≤ b) (ws : List Int) {x y : Nat} (hx : x < a) (hy : y < b) : (flatL a b ws).getD (x * b + y) 0 = if y = 0 then ws.getD x 0 else 0 := by
  induction a with
  | zero => omega
  | succ a ih =>
    have e : flatL (a + 1) b ws = flatL a b ws ++ (ws.getD a 0 :: List.replicate (b - 1) 0) := by
      unfold flatL
      rw [List.range_succ, List.flatMap_append]
      simp
    have la := flat_len (a := a) hb ws
    rw [e, List.getD_eq_getElem?_getD]
    by_cases c : x < a
    · have lt : x * b + y < a * b := by
        have : (x + 1) * b ≤ a * b := Nat.mul_le_mul_right b c
        rw [Nat.add_mul, Nat.one_mul] at this
        omega
      rw [List.getElem?_append_left (by rw [la]; exact lt), ← List.getD_eq_getElem?_getD, ih c]
    · have ex : x = a := by omega
      subst ex
      rw [List.getElem?_append_right (by rw [la]; omega), la, show x * b + y - x * b = y by omega]
      cases y with
      | zero => rfl
      | succ y =>
        rw [List.getElem?_cons_succ, List.getElem?_replicate]
        split <;> simp
theorem fl_pw : ∀ ab ∈ BL, ∀ x ∈ List.range ab.1, ∀ k ∈ List.range ab.1, ∀ l ∈ List.range ab.2,
    (0 + pw (r2 ab.1 ab.2) (ordL (r2 ab.1 ab.2)) 1 (pl (r2 ab.1 ab.2) (x * ab.2 + 0)) (pl (r2 ab.1 ab.2) (k * ab.2 + l))) % (ordL (r2 ab.1 ab.2)).toNat = (((((0 + pw (r1 ab.1) (ordL (r1 ab.1)) 1 (pl (r1 ab.1) x) (pl (r1 ab.1) k) : Nat)) : Int) * (ordL (r2 ab.1 ab.2) / ordL (r1 ab.1))) % ordL (r2 ab.1 ab.2)).toNat % (ordL (r2 ab.1 ab.2)).toNat := by decide +kernel
theorem fl_lt : ∀ ab ∈ BL, ∀ x ∈ List.range ab.1, ∀ k ∈ List.range ab.1, 0 + pw (r1 ab.1) (ordL (r1 ab.1)) 1 (pl (r1 ab.1) x) (pl (r1 ab.1) k) < (ordL (r1 ab.1)).toNat := by decide +kernel
/-- the voices of a row along the first ring do not hang on the other label -/
theorem flat_vo {a b : Nat} (hab : (a, b) ∈ BL) {ws : List Int} (hl : ws.length = a) : voL (r2 a b) (rofL (r2 a b) (flatL a b ws)) = fdue a b (voL (r1 a) (rofL (r1 a) ws)) := by
  obtain ⟨h2, ha, hb, oa, ob, da, db, l2, la, lb, a1, b1⟩ := bl_ok _ hab
  dsimp only at h2 ha hb oa ob da db l2 la lb a1 b1
  have T := tabs_of h2
  have fl := flat_len (a := a) b1 ws
  have C := rowC_rof h2 (xs := flatL a b ws) (by rw [fl, l2])
  have C1 := rowC_rof ha (xs := ws) (by rw [hl, la])
  have V1 := rowC_vo ha C1
  have da' : ordL (r2 a b) % ordL (r1 a) = 0 := by rw [oa]; exact da
  have ea : (liftL (a : Int) (ordL (r2 a b))) = liftL (ordL (r1 a)) (ordL (r2 a b)) := by rw [oa]
  have dl : (fdue a b (voL (r1 a) (rofL (r1 a) ws))).length = a * b := by
    unfold fdue
    have : ∀ vs : List Num, (vs.flatMap fun s => List.replicate b (liftL (a : Int) (ordL (r2 a b)) s)).length = vs.length * b := by
      intro vs
      induction vs with
      | nil => simp
      | cons v vs ih =>
        rw [List.flatMap_cons, List.length_append, ih, List.length_replicate, List.length_cons, Nat.add_mul]
        omega
    rw [this, V1.len, la]
  have dg2 : ∀ {i : Nat} {n : Num}, (fdue a b (voL (r1 a) (rofL (r1 a) ws)))[i]? = some n → ∃ m, (voL (r1 a) (rofL (r1 a) ws))[i / b]? = some m ∧ n = liftL (ordL (r1 a)) (ordL (r2 a b)) m := fun {i n} hn => by
    unfold fdue at hn
    rw [fm_get b1, ea] at hn
    obtain ⟨m, hm, e⟩ := Option.map_eq_some_iff.mp hn
    exact ⟨m, hm, e.symm⟩
  have CD : RowC (r2 a b) (fdue a b (voL (r1 a) (rofL (r1 a) ws))) := by
    refine ⟨by rw [dl, l2], fun n hn => ?_⟩
    obtain ⟨i, hi⟩ := List.mem_iff_getElem?.mp hn
    obtain ⟨m, hm, rfl⟩ := dg2 hi
    exact numC_lift h2 (V1.num m (List.mem_of_getElem? hm))
  refine rows_eq (rowC_vo h2 C) CD (Int.le_refl 1) (w := fun i => lfv (r2 a b) (r1 a) (fun j => sm a (fun x => ws.getD x 0 * Tz (dg (r1 a)) (polyL (ordL (r1 a))) j (0 + pw (r1 a) (ordL (r1 a)) 1 (pl (r1 a) x) (pl (r1 a) (i / b)))))) (fun i n hn => ?_) (fun i n hn => ?_)
  · have hi := (voL_get hn).1
    rw [l2] at hi
    have q := Rp_vo h2 C (Int.le_refl 1) (w := fun i k => if k = 0 then (flatL a b ws).getD i 0 else 0) (fun a b hb => Rp_rof h2 hb) hn
    refine Rp_congr (fun j hj => ?_) q
    rw [Tq_whole h2, l2, sm_blocks, lfv_sm]
    have kb : i / b < a := by
      rw [Nat.div_lt_iff_lt_mul (by omega)]
      exact hi
    have ib : i % b < b := Nat.mod_lt _ (by omega)
    have ei : i = (i / b) * b + i % b := by rw [Nat.mul_comm]; exact (Nat.div_add_mod i b).symm
    refine sm_congr fun x hx => ?_
    rw [lfv_mul, lf_T h2 ha da' (fl_lt _ hab x (List.mem_range.mpr hx) (i / b) (List.mem_range.mpr kb)) hj]
    have e1 : ∀ y, y < b → (flatL a b ws).getD (x * b + y) 0 * Tz (dg (r2 a b)) (polyL (ordL (r2 a b))) j (0 + pw (r2 a b) (ordL (r2 a b)) 1 (pl (r2 a b) (x * b + y)) (pl (r2 a b) i)) = if y = 0 then ws.getD x 0 * Tz (dg (r2 a b)) (polyL (ordL (r2 a b))) j (0 + pw (r2 a b) (ordL (r2 a b)) 1 (pl (r2 a b) (x * b + y)) (pl (r2 a b) i)) else 0 := fun y hy => by
      rw [flat_get b1 ws hx hy]
      split
      · rfl
      · exact Int.zero_mul _
    rw [sm_congr e1, sm_delta (f := fun y => ws.getD x 0 * Tz (dg (r2 a b)) (polyL (ordL (r2 a b))) j (0 + pw (r2 a b) (ordL (r2 a b)) 1 (pl (r2 a b) (x * b + y)) (pl (r2 a b) i))), if_pos (by omega)]
    congr 1
    refine T_eqv (e := (ordL (r2 a b)).toNat) (T.per j hj) ?_
    have f := fl_pw _ hab x (List.mem_range.mpr hx) (i / b) (List.mem_range.mpr kb) (i % b) (List.mem_range.mpr ib)
    dsimp only at f
    rw [← ei] at f
    exact f
  · obtain ⟨m, hm, rfl⟩ := dg2 hn
    refine Rp_lift h2 (V1.num m (List.mem_of_getElem? hm)) ?_
    have q := Rp_vo ha C1 (Int.le_refl 1) (w := fun i k => if k = 0 then ws.getD i 0 else 0) (fun a b hb => Rp_rof ha hb) hm
    refine Rp_congr (fun j hj => ?_) q
    rw [Tq_whole ha, la]
end K09

/-! Calls by name alone. -/
namespace K09
open PySem PySem.Spec PyProof.Rows L2
section
variable {X : Cx} {CX : CXT} {k : Nat} {f C : Addr} {fd : FuncData} {ps ks : List Str} {sp : Sp} {E : XK} {x m : Str} {p pos apos kpos : Pos} {kws : List Keyword} {tk : TA} {g : List Value → List Value → List Value} {gV : List V → List V → List V}
/-- f(k = v, ..), nothing by position -/
theorem pe_callK0 (F : FnOk X.prog X.w X.K X.mg X.base CX k f fd ps sp) (hr : Room k X.A) (hg : Gl X x) (hm : X.mg x = some (.ref f)) (hk : PySem.W.keepIn X.K (.ref f) = true) (hb : KBinds X.K fd ps ks g gV) (hx : Passes CX X E)
    (hkw : PK X kws tk) (hall : (backToKw pos (keywordEach kws X.env)).all (·.1.isSome) = true := by rfl) (hks : (backToKw pos (keywordEach kws X.env)).filterMap (·.1) = ks := by rfl)
    (hdb : (x == ("__debug__" : Str)) = false := by decide)
    (hpl : ((backTo pos (starEach [] X.env)).any (·.1) || (backToKw pos (keywordEach kws X.env)).any (·.1.isNone)) = false := by rfl) :
    PE X (.Call (.Name x p) [] kws pos) (tCallK sp gV E tNil tk) := by
  refine ⟨fun pins s σ H Q I h => ?_⟩
  refine wpAny_Call_Name_kw (ld_glob I hg hm ?_ hdb)
  refine PySem.W.callWith_KW0 (h₀ := X.base) I.ok.mod.kin hk hall (thn (hkw.run pos pins s σ H _ I h) fun ws s2 ⟨zs, H2, I2, rz, q2⟩ => ⟨I2.kIn, ?_⟩) hpl
  rw [hks]
  exact run_fnk (us := []) (vs := []) F hr hb hx I2 .nil rz q2
end
/-- two keywords, in the other order -/
def g2 : List Value → List Value → List Value
  | [], [p, l] => [l, p]
  | _, _ => []
def g2V : List V → List V → List V
  | [], [p, l] => [l, p]
  | _, _ => []
theorem g2_rel {vs : List V} {us : List Value} {zs : List V} {ws : List Value} (r : Vals vs us) (rz : Vals zs ws) : Vals (g2V vs zs) (g2 us ws) := by
  cases r with
  | nil =>
    cases rz with
    | nil => exact .nil
    | cons r1 rz =>
      cases rz with
      | nil => exact .nil
      | cons r2 rz =>
        cases rz with
        | nil => exact .cons r2 (.cons r1 .nil)
        | cons r4 rz => exact .nil
  | cons a b => cases rz <;> exact .nil
/-- three keywords, in the other order -/
def g3 : List Value → List Value → List Value
  | [], [p, l, r] => [r, l, p]
  | _, _ => []
def g3V : List V → List V → List V
  | [], [p, l, r] => [r, l, p]
  | _, _ => []
theorem g3_rel {vs : List V} {us : List Value} {zs : List V} {ws : List Value} (r : Vals vs us) (rz : Vals zs ws) : Vals (g3V vs zs) (g3 us ws) := by
  cases r with
  | nil =>
    cases rz with
    | nil => exact .nil
    | cons r1 rz =>
      cases rz with
      | nil => exact .nil
      | cons r2 rz =>
        cases rz with
        | nil => exact .nil
        | cons r3 rz =>
          cases rz with
          | nil => exact .cons r3 (.cons r2 (.cons r1 .nil))
          | cons r4 rz => exact .nil
  | cons a b => cases rz <;> exact .nil
theorem kb_loud {K : PySem.W.Frag} {f : Addr} {fd : FuncData} (F : FnP K "loudness" sLoud f fd) : KBinds K fd ["order", "number"] ["number", "order"] g2 g2V := by
  refine ⟨fun s us ws KX hl => ?_, fun r rz => g2_rel r rz⟩
  obtain ⟨oc, od, dV, kV, doc, pm, an, cdv, ct, osl, rfl, lk, hcd, hD, hK⟩ := F.ex
  rcases hD with ⟨_, rfl⟩ | ⟨e, _⟩
  · match us, ws, hl with
    | [], [p, l], _ => exact .of_eq rfl
    | [], [], h => exact absurd h (by decide)
    | [], [_], h => exact absurd h (by show ¬ (0 : Nat) = 2; decide)
    | [], _ :: _ :: _ :: _, h => exact absurd h (by show ¬ (0 : Nat) = 2; decide)
    | _ :: _, _, h => exact absurd h (by show ¬ (0 : Nat) = 2; decide)
  · exact absurd rfl e
theorem kb_voice {K : PySem.W.Frag} {f : Addr} {fd : FuncData} (F : FnP K "voice" sVoice f fd) : KBinds K fd ["rings", "row", "label"] ["label", "row", "rings"] g3 g3V := by
  refine ⟨fun s us ws KX hl => ?_, fun r rz => g3_rel r rz⟩
  obtain ⟨oc, od, dV, kV, doc, pm, an, cdv, ct, osl, rfl, lk, hcd, hD, hK⟩ := F.ex
  rcases hD with ⟨_, rfl⟩ | ⟨e, _⟩
  · match us, ws, hl with
    | [], [p, l, r], _ => exact .of_eq rfl
    | [], [], h => exact absurd h (by decide)
    | [], [_], h => exact absurd h (by show ¬ (0 : Nat) = 3; decide)
    | [], [_, _], h => exact absurd h (by show ¬ (0 : Nat) = 3; decide)
    | [], _ :: _ :: _ :: _ :: _, h => exact absurd h (by show ¬ (0 : Nat) = 3; decide)
    | _ :: _, _, h => exact absurd h (by show ¬ (0 : Nat) = 3; decide)
  · exact absurd rfl e
theorem rep_ok {K : PySem.W.Frag} {a : Addr} {d : PyData} {H : Hp} {Q : VK} (h : Dp K H (.ref a) d) (ok : OkD 40 50000 d) (q : Q (.str d.shown) H) : rRepr K [.ref a] H Q := ⟨_, d, rfl, ⟨a, rfl⟩, h, ok, q⟩
theorem ne_same {s : Str} {H : Hp} {F : Bool → Hp → Prop} (h : F false H) : rNe (.str s) (.str s) H (fun x H' => ∃ c, x = .bl c ∧ F c H') := ⟨rfl, false, by simp, h⟩
theorem eq_same {s : Str} {H : Hp} {Q : VK} (h : Q (.bl true) H) : rEq (.str s) (.str s) H Q := ⟨rfl, by simpa using h⟩
theorem next_ifS {c : TT} {t u : TS} {D : Ends} {rt : VK} {b c' : L2.St → Hp → Prop} {σ : L2.St} {H : Hp} (h : tIfS c t u D σ H) : tNext { nx := tIfS c t u D, rt := rt, bk := b, ct := c' } σ H := h
theorem ret_op {r : R2} {ta tb : TE} {D : Ends} {σ : L2.St} {H : Hp} (h : ta σ H fun x H1 => tb σ H1 fun y H2 => r x y H2 D.rt) : tRet (tOp r ta tb) D σ H := h
theorem next_ret {r : R2} {ta tb : TE} {D : Ends} {rt : VK} {b c' : L2.St → Hp → Prop} {σ : L2.St} {H : Hp} (h : ta σ H fun x H1 => tb σ H1 fun y H2 => r x y H2 D.rt) : tNext { nx := tRet (tOp r ta tb) D, rt := rt, bk := b, ct := c' } σ H := h
theorem if_op {r : R2} {ta tb : TE} {t u : L2.TS} {D : Ends} {σ : L2.St} {H : Hp} (h : ta σ H fun x H1 => tb σ H1 fun y H2 => r x y H2 fun z H3 => ∃ k, z = .bl k ∧ (fun b H1 => if b = true then t D σ H1 else u D σ H1) k H3) : tIfS (tTest (tOp r ta tb)) t u D σ H := h
theorem seq_if {r : R2} {ta tb : TE} {t u v : L2.TS} {D : Ends} {σ : L2.St} {H : Hp} (h : ta σ H fun x H1 => tb σ H1 fun y H2 => r x y H2 fun z H3 => ∃ k, z = .bl k ∧ (fun b H1 => if b = true then t { D with nx := fun σ2 H2 => v D σ2 H2 } σ H1 else u { D with nx := fun σ2 H2 => v D σ2 H2 } σ H1) k H3) : tSeq (tIfS (tTest (tOp r ta tb)) t u) v D σ H := h
theorem set_ok {i : Nat} {x : V} {σ : L2.St} {H : Hp} {Q : L2.St → Hp → Prop} (h : Q (σ.set i (some x)) H) : gName i x σ H Q := h
theorem next_asg {te : TE} {g : TG} {t : L2.TS} {D : Ends} {rt : VK} {b c' : L2.St → Hp → Prop} {σ : L2.St} {H : Hp} (h : te σ H fun v H1 => g v σ H1 fun σ2 H2 => t D σ2 H2) : tNext { nx := tSeq (tAsg te g) t D, rt := rt, bk := b, ct := c' } σ H := h
theorem cb1_ok {r : List V → Hp → VK → Prop} {t1 : TE} {σ : L2.St} {H : Hp} {Q : VK} (h : t1 σ H fun x H1 => r [x] H1 Q) : tCB r (tCons t1 tNil) σ H Q := h
theorem tup2_ok {t1 t2 : TE} {σ : L2.St} {H : Hp} {Q : VK} (h : t1 σ H fun x H1 => t2 σ H1 fun y H2 => ([x, y] : List V).length ≤ sizeLine ∧ ∀ p, H2 p = none → Q (.ref p) (upd H2 p (.tup [x, y]))) : tTup (tCons t1 (tCons t2 tNil)) σ H Q := h
theorem tup3_ok {t1 t2 t3 : TE} {σ : L2.St} {H : Hp} {Q : VK} (h : t1 σ H fun x H1 => t2 σ H1 fun y H2 => t3 σ H2 fun z H3 => ([x, y, z] : List V).length ≤ sizeLine ∧ ∀ p, H3 p = none → Q (.ref p) (upd H3 p (.tup [x, y, z]))) : tTup (tCons t1 (tCons t2 (tCons t3 tNil))) σ H Q := h
theorem tup4_ok {t1 t2 t3 t4 : TE} {σ : L2.St} {H : Hp} {Q : VK} (h : t1 σ H fun x H1 => t2 σ H1 fun y H2 => t3 σ H2 fun z H3 => t4 σ H3 fun u H4 => ([x, y, z, u] : List V).length ≤ sizeLine ∧ ∀ p, H4 p = none → Q (.ref p) (upd H4 p (.tup [x, y, z, u]))) : tTup (tCons t1 (tCons t2 (tCons t3 (tCons t4 tNil)))) σ H Q := h
end K09

/-! Defs that show values, called where nothing is being shown. -/
namespace K09
open PySem PySem.Spec PyProof.Rows L2
/-! ### the law's def, where nothing is being shown -/
theorem fn_at {CX : CXT} {P : Program} {w : World} {K : PySem.W.Frag} {mg : Str → Option Value} {base : Heap} {k : Nat} {f : Addr} {name qual : Str} {params : Arguments} {body : List Stmt} {scope : Scope} {fd : FuncData} {N ps : List Str} {sp : Sp} {A : Around} (F : FunD K name qual params body scope [] [] f fd) (S : FnScope N ps scope)
    (len : ∀ vs H Q E, sp vs H Q E → vs.length = ps.length) (hr : Room (k + 1) A)
    (hbody : ∀ (cdv : Value) (outer : List Env) (s : Shared) (H : Hp) (vs : List V) (Q : VK) (E : XK), Room k (A.deeper (envOfC qual scope s.heap.objs.size f cdv)) → sp vs H Q E →
      ∃ t, PSs (cxOf CX P w K mg base N qual scope f cdv A outer s H E) body t ∧ t { nx := fun _ H' => Q .non H', rt := Q } (start N vs) H)
    (outer : List Env) (s : Shared) (H : Hp) (args : Args) (us : List Value) (vs : List V) (Q : VK) (E : XK) (e0 : Env0 P w K mg base A outer s H) (hb : BindsTo s fd args (ps.zip us)) (r : Vals vs us) (hsp : sp vs H Q E) :
    codeAny (model P w) A (.call (.ref f) args) (CR CX outer P w H s Q E) s := by
  obtain ⟨oc, od, dV, kV, doc, pm, an, cdv, ct, osl, rfl, lk, hcd, _, _⟩ := F.ex
  have hl := len _ _ _ _ hsp
  have KX : K.In s.heap := e0.mod.kin.keeps fun b o e => (e0.bs b o e).1
  have lim : s.heap.NoLimit := e0.mod.nolimit.keeps fun b o e => (e0.bs b o e).1
  have hkind : ∀ y ∈ ps.zip us, scope.names.lookup y.1 = some .local ∨ (scope.names.lookup y.1 = some .cell ∧ ((cellsFrom (s.heap.objs.size + 1) scope.names []).lookup y.1).isSome = true) := fun ⟨n, v⟩ hy => by
    rcases S.par n (List.of_mem_zip hy).1 with q | q
    · exact .inl q
    · exact .inr ⟨q, PySem.W.cellsFrom_some _ _ _ (.inl q)⟩
  refine codeAny_call_function hr.depth (KX _ _ lk) rfl S.co S.gen rfl (PySem.W.codeRec_of KX hcd) (hb _ _ _ _ ?_)
  refine wpAny_newFunctionEnv_cells S.kind hkind fun env he s1 x => ?_
  subst he
  refine ⟨lim.keeps x.toInCall.keep, codeAny_func ?_⟩
  obtain ⟨t, ht, hq⟩ := hbody cdv outer s H vs Q E (hr.deeper _) hsp
  have I : Inv (cxOf CX P w K mg base N qual scope f cdv A outer s H E) [] (start N vs) H s1 := inv_start S hr.hd e0 hl r x
  refine wpAny_mono (ht.run [] s1 (start N vs) H _ I hq) (fun fl s' hs => ?_) fun e s' hs => hs
  cases fl with
  | ret u =>
    obtain ⟨v, σ', H', J, rv, q⟩ := hs
    exact ⟨v, H', J.os, J.bare, J.base, J.hok, rv, q⟩
  | next =>
    obtain ⟨σ', H', J, q⟩ := hs
    exact ⟨.non, H', J.os, J.bare, J.base, J.hok, rfl, q⟩
  | brk =>
    obtain ⟨_, _, _, q⟩ := hs
    exact False.elim q
  | cont =>
    obtain ⟨_, _, _, q⟩ := hs
    exact False.elim q
/-- a def's promise where nothing is being shown -/
structure FnOkG (P : Program) (w : World) (K : PySem.W.Frag) (mg : Str → Option Value) (base : Heap) (CX : CXT) (k : Nat) (f : Addr) (fd : FuncData) (ps : List Str) (sp : Sp) : Prop where
  len : ∀ vs H Q E, sp vs H Q E → vs.length = ps.length
  run : ∀ (A : Around) (outer : List Env) (s : Shared) (H : Hp) (args : Args) (us : List Value) (vs : List V) (Q : VK) (E : XK), A.guards = some [] → Room k A → Env0 P w K mg base A outer s H → BindsTo s fd args (ps.zip us) → Vals vs us → sp vs H Q E →
    codeAny (model P w) A (.call (.ref f) args) (CR CX outer P w H s Q E) s
theorem okG {CX : CXT} {P : Program} {w : World} {K : PySem.W.Frag} {mg : Str → Option Value} {base : Heap} {k : Nat} {f : Addr} {name qual : Str} {params : Arguments} {body : List Stmt} {scope : Scope} {fd : FuncData} {N ps : List Str} {sp : Sp} (F : FunD K name qual params body scope [] [] f fd) (S : FnScope N ps scope)
    (len : ∀ vs H Q E, sp vs H Q E → vs.length = ps.length)
    (hbody : ∀ (cdv : Value) (A : Around) (outer : List Env) (s : Shared) (H : Hp) (vs : List V) (Q : VK) (E : XK), A.guards = some [] → Room k (A.deeper (envOfC qual scope s.heap.objs.size f cdv)) → sp vs H Q E →
      ∃ t, PSs (cxOf CX P w K mg base N qual scope f cdv A outer s H E) body t ∧ t { nx := fun _ H' => Q .non H', rt := Q } (start N vs) H) :
    FnOkG P w K mg base CX (k + 1) f fd ps sp :=
  ⟨len, fun A outer s H args us vs Q E hA hr e0 hb r hsp => fn_at F S len hr (fun cdv outer s H vs Q E hr h => hbody cdv A outer s H vs Q E hA hr h) outer s H args us vs Q E e0 hb r hsp⟩
theorem pe_callG {X : Cx} {CX : CXT} {k : Nat} {f : Addr} {fd : FuncData} {ps : List Str} {sp : Sp} {E : XK} {x : Str} {p pos : Pos} {e : Expr} {es : List Expr} {t : TA}
    (F : FnOkG X.prog X.w X.K X.mg X.base CX k f fd ps sp) (hA : X.A.guards = some []) (hr : Room k X.A) (hg : Gl X x) (hm : X.mg x = some (.ref f)) (hk : PySem.W.keepIn X.K (.ref f) = true) (hb : L2.Binds X.K fd ps []) (hx : Passes CX X E) (ha : PA X (e :: es) t)
    (hdb : (x == ("__debug__" : Str)) = false := by decide)
    (he : starEach (e :: es) X.env = (false, eval e X.env) :: starEach es X.env := by rfl) (hpl : (backTo pos (starEach es X.env)).any (·.1) = false := by rfl) :
    PE X (.Call (.Name x p) (e :: es) [] pos) (tCall sp [] E t) := by
  refine ⟨fun pins s σ H Q I h => ?_⟩
  refine wpAny_Call_Name_kw (ld_glob I hg hm (PySem.W.callWith_K I.ok.mod.kin hk (thn (ha.run pos pins s σ H _ I h) fun us s1 ⟨vs, H1, I1, r, q⟩ => ⟨I1.kIn, ?_⟩) he hpl) hdb)
  have r2 : Vals (vs ++ []) (us ++ []) := r.append .nil
  have hl : (us ++ []).length = ps.length := by rw [← r2.length]; exact F.len _ _ _ _ q
  refine wpAny_call (codeAny_mono (F.run X.A X.stack s1 H1 ⟨us, []⟩ (us ++ []) (vs ++ []) Q E hA hr I1.env0 (hb s1 us I1.kIn hl) r2 q) fun rr s' hq => ?_)
  cases rr with
  | error e => exact hx pins σ H1 s1 e s' I1 hq
  | ok fl =>
    cases fl with
    | ret u => exact Inv.after I1 hq
    | next => exact False.elim hq
    | brk => exact False.elim hq
    | cont => exact False.elim hq
end K09

/-! The law's look at loudnesses. -/
namespace K09
open PySem PySem.Spec PyProof.Rows L2
theorem numOk_of {r : List Int} (hr : r ∈ RR) {n : Num} (c : NumC (dg r) n) (h : n.2 ≤ 1000) : NumOk (ordL r) n := ⟨by rw [c.len, (poly_len hr).2.1], c.pos, h, c.low⟩
theorem good_c {r : List Int} (hr : r ∈ RR) {n : Num} (g : GoodN (ordL r) n) : NumC (dg r) n := ⟨by rw [g.ok.len, ← (poly_len hr).2.1], g.ok.pos, g.ok.low⟩
theorem red_nil {dv : List Int} (hd : 1 ≤ dv.length) : redL [] dv = List.replicate (dv.length - 1) 0 := by
  refine ext_getD (by rw [redL_len' hd]; simp) fun j hj => ?_
  rw [redL_len' hd] at hj
  rw [red_ph hd hj, ph_low _ _ (by simp), List.getD_eq_getElem?_getD, List.getD_eq_getElem?_getD]
  simp [List.getElem?_replicate, hj]
theorem tot_snoc {r : List Int} {ns : List Num} {i : Nat} {n : Num} (h : ns[i]? = some n) : totL r (ns.take (i + 1)) = sumN (totL r (ns.take i)) n 1 := by
  rw [takeS h]
  unfold totL
  rw [List.foldl_append]
  rfl
theorem reps_dvd {r : List Int} {xs : List Num} {M : Int} {u : Nat → Nat → Int} (h : Reps r xs M u) (hM : 1 ≤ M) {i : Nat} (hi : i ≤ xs.length) : (totL r (xs.take i)).2 ∣ M := by
  rw [tot_low h hM hi]
  exact low_dvd _ _ hM
theorem reps_abs {r : List Int} {xs : List Num} {M : Int} {u : Nat → Nat → Int} {c : Nat} (h : Reps r xs M u) (hM : 1 ≤ M) (hu : ∀ i, i < xs.length → ∀ k, k < dg r → (u i k).natAbs ≤ c) : Abs (xs.length * c) (totL r xs).1 := by
  have e := tot_low h hM (Nat.le_refl xs.length)
  rw [List.take_length] at e
  rw [e]
  refine low_abs hM (Abs.of fun j hj => ?_)
  have hj' : j < dg r := by
    have : (vecL (dg r) (fun k => sm xs.length (fun a => u a k))).length = dg r := by unfold vecL; simp
    omega
  rw [vecL_get hj']
  exact sm_abs fun i hi => hu i hi j hj'
theorem mw_abs {r : List Int} (hr : r ∈ RR) {u v : Nat → Int} {M N : Nat} (hu : ∀ k, k < dg r → (u k).natAbs ≤ M) (hv : ∀ k, k < dg r → (v k).natAbs ≤ N) {j : Nat} (hj : j < dg r) : (mw r u v j).natAbs ≤ 512 * (M * N) := by
  have s : (mw r u v j).natAbs ≤ dg r * (M * (32 * N)) := sm_abs fun i hi => by
    rw [Int.natAbs_mul]
    exact Nat.mul_le_mul (hu i hi) (tn_abs hr _ hv hj)
  have e : dg r * (M * (32 * N)) ≤ 16 * (M * (32 * N)) := Nat.mul_le_mul_right _ (dg_le hr)
  have f : 16 * (M * (32 * N)) = 512 * (M * N) := by
    rw [show M * (32 * N) = 32 * (M * N) by ac_rfl, ← Nat.mul_assoc]
  omega
theorem exv_abs {r : List Int} (hr : r ∈ RR) {w : Nat → Int} {M : Nat} (hw : ∀ k, k < dg r → (w k).natAbs ≤ M) {j : Nat} (hj : j < dg r) : (exv (ordL r) w j).natAbs ≤ 32 * M := by
  have s : (exv (ordL r) w j).natAbs ≤ dg r * (M * 2) := sm_abs fun k hk => by
    rw [Int.natAbs_mul]
    exact Nat.mul_le_mul (hw k hk) (T_abs hr hj _)
  have e : dg r * (M * 2) ≤ 16 * (M * 2) := Nat.mul_le_mul_right _ (dg_le hr)
  omega
theorem loud_dvd {r : List Int} (h : r ∈ RR) {D : Int} {n : Num} (c : NumC (dg r) n) (hd : n.2 ∣ D) : (loudL (ordL r) n).2 ∣ D * D := by
  unfold loudL
  refine Int.dvd_trans (low_dvd _ _ (mul1 c.pos (numC_ex (ord_er r h) c).pos)) ?_
  exact Int.mul_dvd_mul hd hd
section
variable {P : Program} {w : World} {K : PySem.W.Frag} {mg : Str → Option Value} {base : Heap} {f f1 f2 f3 f4 f5 : Addr} {fd fd1 fd2 fd3 fd4 fd5 : FuncData}
def spLL (K : PySem.W.Frag) : Sp := fun vs H Q _ => ∃ (rg : Addr) (vrow vtold : V) (r : List Int) (ns : List Num), vs = [.int (ordL r), .int ((placesL r).length : Nat), .ref rg, vrow, vtold] ∧ r ∈ RR ∧ SqL K H rg ((polyL (ordL r)).map V.int) ∧ RowAt K H vrow ns ∧ RowAt K H vtold (voL r ns) ∧ RowS r 6 ns ∧ AbsR 3 ns ∧ ∀ H', Same H H' → Q (.bl true) H'
abbrev llN : List Str := ["e", "n", "ring", "row", "told", "first", "second", "item", "sound"]
theorem scLL : FnScope llN ["e", "n", "ring", "row", "told"] (defScope sLLoud) := ⟨rfl, rfl, rfl, by decide +kernel, rfl, by decide +kernel, by decide +kernel⟩
theorem ok_lLoud (F : FnP K "_law_is_loudness_right" sLLoud f fd) (B : Bl mg) (F1 : FnP K "_law_made" sLMade f1 fd1) (g1 : mg "_law_made" = some (.ref f1)) (G1 : FnOk P w K mg base CX0 2 f1 fd1 ["ring", "sums", "bottom"] (spLMade K))
    (F2 : FnP K "plus" sPlus f2 fd2) (g2 : mg "plus" = some (.ref f2)) (G2 : FnOk P w K mg base CX0 6 f2 fd2 ["order", "one", "other"] (spPlus K)) (F3 : FnP K "loudness" sLoud f3 fd3) (g3 : mg "loudness" = some (.ref f3)) (G3 : FnOk P w K mg base CX0 6 f3 fd3 ["order", "number"] (spLoud K))
    (F4 : FnP K "times" sTimes f4 fd4) (g4 : mg "times" = some (.ref f4)) (G4 : FnOk P w K mg base CX0 6 f4 fd4 ["order", "one", "other"] (spTimes K)) :
    FnOkG P w K mg base CX0 8 f fd ["e", "n", "ring", "row", "told"] (spLL K) := by
  have b1 : Binds K fd1 ["ring", "sums", "bottom"] [] := F1.bindsN fun _ _ _ _ _ _ us hl => match us, hl with | [_, _, _], _ => rfl
  have b2 : Binds K fd2 ["order", "one", "other"] [] := F2.bindsN fun _ _ _ _ _ _ us hl => match us, hl with | [_, _, _], _ => rfl
  have b3 : Binds K fd3 ["order", "number"] [] := F3.bindsN fun _ _ _ _ _ _ us hl => match us, hl with | [_, _], _ => rfl
  have b4 : Binds K fd4 ["order", "one", "other"] [] := F4.bindsN fun _ _ _ _ _ _ us hl => match us, hl with | [_, _, _], _ => rfl
  refine okG F scLL (fun vs H Q E h => ?_) (fun cdv A outer s H vs Q E hA hr h => ?_)
  · obtain ⟨rg, vrow, vtold, r, ns, rfl, _⟩ := h
    rfl
  · obtain ⟨rg, vrow, vtold, r, ns, rfl, h14, hG, hR, hV, hS, hAb, k⟩ := h
    have cr : CallR (Cx.nox (cxOf CX0 P w K mg base llN "_law_is_loudness_right" (defScope sLLoud) f cdv A outer s H E)) (.builtin "repr") (rRepr K) := call_repr hA hr.units
    refine ⟨_, PSs.nox (pss_cons (ps_par (i := 5) (j := 6) rfl scLL.nd rfl rfl (by decide) rfl rfl (pa_cons (pe_call G1 (hr.mono (by decide)) (by rfl) g1 F1.kp b1 .nil pass0 (pa_cons (pv 2) (pa_cons (pe_tup pa_nil) (pa_cons pe_int pa_nil)))) (pa_cons (pe_call G1 (hr.mono (by decide)) (by rfl) g1 F1.kp b1 .nil pass0 (pa_cons (pv 2) (pa_cons (pe_tup pa_nil) (pa_cons pe_int pa_nil)))) pa_nil)) rfl)
      (pss_cons (ps_for PassesOwn.never rfl (RZ.pi_zipA (by rfl) (B "zip" (by decide +kernel)) (pa_cons (pv 3) (pa_cons (pv 4) pa_nil))) (pg_tup rfl (pgs_cons (pg_name (i := 7) scLL.nd rfl (Or.inl rfl)) (pgs_cons (pg_name (i := 8) scLL.nd rfl (Or.inl rfl)) pgs_nil)))
        (pss_one (ps_par (i := 5) (j := 6) rfl scLL.nd rfl rfl (by decide) rfl rfl
          (pa_cons (pe_call G2 (hr.mono (by decide)) (by rfl) g2 F2.kp b2 .nil pass0 (pa_cons (pv 0) (pa_cons (pv 5) (pa_cons (pe_call G3 (hr.mono (by decide)) (by rfl) g3 F3.kp b3 .nil pass0 (pa_cons (pv 0) (pa_cons (pv 7) pa_nil))) pa_nil))))
          (pa_cons (pe_call G2 (hr.mono (by decide)) (by rfl) g2 F2.kp b2 .nil pass0 (pa_cons (pv 0) (pa_cons (pv 6) (pa_cons (pe_callK0 G3 (hr.mono (by decide)) (by rfl) g3 F3.kp (kb_loud F3) pass0 (pk_cons (pv 8) (pk_cons (pv 0) pk_nil))) pa_nil)))) pa_nil)) rfl)))
      (pss_one (ps_ret (pe_cmpR op_eq (pe_callB cr (by rfl) (B "repr" (by decide +kernel)) (by decide +kernel) (pa_cons (pv 6) pa_nil))
        (pe_callB cr (by rfl) (B "repr" (by decide +kernel)) (by decide +kernel) (pa_cons (pe_call G4 (hr.mono (by decide)) (by rfl) g4 F4.kp b4 .nil pass0 (pa_cons (pv 0) (pa_cons (pv 5) (pa_cons (pe_call G1 (hr.mono (by decide)) (by rfl) g1 F1.kp b1 .nil pass0 (pa_cons (pv 2) (pa_cons (pe_lst (pa_cons (pv 1) pa_nil)) (pa_cons pe_int pa_nil)))) pa_nil)))) pa_nil)) (nomark _)))))), ?_⟩
    have he := er_in r h14
    have dgl := dg_le h14
    have pl2 := (poly_len h14).1
    have l16 := (pl_pos r h14).2
    have l1 := (pl_pos r h14).1
    have C := hS.c
    have levR := hS.lev (by decide) ns.length
    rw [List.take_length] at levR
    have hB := levB_one C
    have hM := mul1 hB hB
    have A := reps_loud h14 (reps_lev C)
    have Vr := reps_loud h14 (reps_vo h14 C)
    have V := rowS_vo h14 hS (by decide)
    have aV := abs_vo h14 (by omega) C hAb
    have ln : (ns.map (loudL (ordL r))).length = (placesL r).length := by rw [List.length_map, C.len]
    have lv : ((voL r ns).map (loudL (ordL r))).length = (placesL r).length := by rw [List.length_map, voL_len]
    have M36 : levB ns * levB ns ∣ 36 := Int.mul_dvd_mul levR.2.1 levR.2.1
    obtain ⟨aw, uw, rfl, haw, hNw⟩ := id hR
    obtain ⟨at', ut, rfl, hat, hNt⟩ := id hV
    have lw : ut.length = uw.length := by rw [hNt.1, hNw.1, C.len, voL_len]
    -- zero, zero
    refine ⟨_, rfl, by decide, fun z hz => ?_⟩
    have sz : Same H (upd H z (.tup [])) := same_upd hz
    refine ⟨rg, z, [], ordL r, 1, rfl, he, sz.seq hG, .inr (SqT.of upd_same), by decide, by decide, by decide, fun vt H1 s1 hvt => ?_⟩
    rw [red_nil (by omega), low_one] at hvt
    have s01 := sz.trans s1
    refine ⟨_, rfl, by decide, fun z2 hz2 => ?_⟩
    have sz2 : Same H1 (upd H1 z2 (.tup [])) := same_upd hz2
    refine ⟨rg, z2, [], ordL r, 1, rfl, he, sz2.seq (s01.seq hG), .inr (SqT.of upd_same), by decide, by decide, by decide, fun vt2 H2 s2 hvt2 => ⟨_, _, rfl, ?_⟩⟩
    rw [red_nil (by omega), low_one] at hvt2
    have s12 := sz2.trans s2
    have s02 := s01.trans s12
    have haw2 := s02.tup haw
    have hat2 := s02.tup hat
    refine ⟨_, rfl, _, rfl, aw, at', uw, ut, rfl, .inr ⟨haw2, hat2, ?_⟩⟩
    refine for_it (walk_zipT (K := K) (a := aw) (b := at') (xs := uw) (ys := ut) lw) (fun i σ H3 => ∃ v5 v6 u7 u8, σ = [some (.int (ordL r)), some (.int ((placesL r).length : Nat)), some (.ref rg), some (.ref aw), some (.ref at'), some v5, some v6, u7, u8] ∧ Same H2 H3 ∧ NumAt K H3 v5 (totL r ((ns.map (loudL (ordL r))).take i)) ∧ NumAt K H3 v6 (totL r (((voL r ns).map (loudL (ordL r))).take i)))
      ⟨vt, vt2, none, none, rfl, Same.refl _, s12.num hvt, hvt2⟩ (fun i σ H3 _ ⟨_, _, _, _, _, z, _⟩ => ⟨z.tup haw2, z.tup hat2⟩) ?_ ?_
    · rintro i zz σ H3 H4 hi ⟨v5, v6, u7, u8, rfl, s3, h5, h6⟩ ⟨Tt, x, y, rfl, hT, rfl, ec, ey⟩
      obtain ⟨nx, hx, hxn⟩ := (s02.nums hNw).get ec
      obtain ⟨ny, hy, hyn⟩ := (s02.nums hNt).get ey
      have st : Same H3 (upd H3 Tt (.tup [x, y])) := same_upd hT
      have mx := List.mem_of_getElem? hx
      have my := List.mem_of_getElem? hy
      have cx := C.num nx mx
      have cy := V.c.num ny my
      have lx := Int.le_of_dvd (by decide) (hS.d nx mx)
      have ly := Int.le_of_dvd (by decide) (V.d ny my)
      have ilx : i < (ns.map (loudL (ordL r))).length := by rw [List.length_map]; exact ltL hx
      have ily : i < ((voL r ns).map (loudL (ordL r))).length := by rw [List.length_map]; exact ltL hy
      have gx : (ns.map (loudL (ordL r)))[i]? = some (loudL (ordL r) nx) := by rw [List.getElem?_map, hx]; rfl
      have gy : ((voL r ns).map (loudL (ordL r)))[i]? = some (loudL (ordL r) ny) := by rw [List.getElem?_map, hy]; rfl
      have clx := A.c _ (List.mem_of_getElem? gx)
      have cly := Vr.c _ (List.mem_of_getElem? gy)
      have dlx := Int.le_of_dvd (by decide) (loud_dvd h14 cx (hS.d nx mx))
      have dly := Int.le_of_dvd (by decide) (loud_dvd h14 cy (V.d ny my))
      have ct5 := numC_tot A.c i
      have ct6 := numC_tot Vr.c i
      have dt5 := Int.le_of_dvd (by decide) (Int.dvd_trans (reps_dvd A hM (Nat.le_of_lt ilx)) M36)
      have dt6 := Int.le_of_dvd (by decide) (Int.dvd_trans (reps_dvd Vr hM (Nat.le_of_lt ily)) M36)
      have bx : ∀ t ∈ nx.1, -(2 ^ 64) < t ∧ t < 2 ^ 64 := fun t ht => by have := hAb nx mx t ht; omega
      have bY : ∀ t ∈ ny.1, -(2 ^ 64) < t ∧ t < 2 ^ 64 := fun t ht => by have := aV ny my t ht; omega
      refine ⟨Tt, _, rfl, SqT.of upd_same, rfl, _, _, rfl, _, _, rfl, rfl, ?_⟩
      generalize upd H3 Tt (.tup [x, y]) = H4 at st
      refine ⟨_, rfl, _, rfl, _, rfl, _, rfl, ordL r, x, nx, rfl, he, (s3.trans st).num hxn, numOk_of h14 cx (by omega), bx, fun vl H5 s5 hvl => ?_⟩
      refine ⟨ordL r, _, _, _, _, rfl, he, (st.trans s5).num h5, hvl, numOk_of h14 ct5 (by omega), numOk_of h14 clx (by omega), fun w5 H6 s6 hw5 => ?_⟩
      have s46 := s5.trans s6
      refine ⟨_, rfl, _, rfl, _, rfl, _, rfl, ordL r, y, ny, rfl, he, ((s3.trans st).trans s46).num hyn, numOk_of h14 cy (by omega), bY, fun vl2 H7 s7 hvl2 => ?_⟩
      refine ⟨ordL r, _, _, _, _, rfl, he, ((st.trans s46).trans s7).num h6, hvl2, numOk_of h14 ct6 (by omega), numOk_of h14 cly (by omega), fun w6 H8 s8 hw6 => ⟨_, _, rfl, ?_⟩⟩
      refine ⟨w5, w6, _, _, rfl, (s3.trans st).trans (s46.trans (s7.trans s8)), ?_, ?_⟩
      · rw [tot_snoc gx]
        exact (s7.trans s8).num hw5
      · rw [tot_snoc gy]
        exact hw6
    · rintro σ H3 ⟨v5, v6, u7, u8, rfl, s3, h5, h6⟩
      have e1 : uw.length = (ns.map (loudL (ordL r))).length := by rw [hNw.1, List.length_map]
      have e2 : uw.length = ((voL r ns).map (loudL (ordL r))).length := by rw [← lw, hNt.1, List.length_map]
      rw [e1, List.take_length] at h5
      rw [e2, List.take_length] at h6
      have c5 := numC_tot A.c (ns.map (loudL (ordL r))).length
      have c6 := numC_tot Vr.c ((voL r ns).map (loudL (ordL r))).length
      have d5 := Int.dvd_trans (reps_dvd A hM (Nat.le_refl _)) M36
      have d6 := Int.dvd_trans (reps_dvd Vr hM (Nat.le_refl _)) M36
      rw [List.take_length] at c5 c6 d5 d6
      have i5 := Int.le_of_dvd (by decide) d5
      have i6 := Int.le_of_dvd (by decide) d6
      have wb : ∀ x, x < (placesL r).length → ∀ k, k < dg r → (wv (levT ns) x k).natAbs ≤ 3000 := fun x hx k _ => abs_lev (by omega) C hAb hx k
      have okS : OkD 40 50000 (numD (totL r ((voL r ns).map (loudL (ordL r))))) := by
        have ab := reps_abs (c := 512 * (512 * 3000 * (32 * (512 * 3000)))) Vr hM (fun i hi k hk => by
          have tb : ∀ k, k < dg r → (Tq r 1 (pl r i) (wv (levT ns)) k).natAbs ≤ 512 * 3000 := fun k hk => TS_abs h14 1 (pl r i) wb hk
          exact mw_abs h14 tb (fun k hk => exv_abs h14 tb hk) hk)
        rw [lv] at ab
        refine (okd_num (fun t ht => Nat.lt_of_le_of_lt (Nat.le_trans (ab t ht) (Nat.mul_le_mul_right _ l16)) (by decide)) ?_ (by rw [c6.len]; exact dgl)).le (by decide) (by decide)
        have p6 := c6.pos
        have e : (totL r ((voL r ns).map (loudL (ordL r)))).2.natAbs < 1001 := by omega
        exact Nat.lt_of_lt_of_le e (by decide)
      -- shown
      obtain ⟨t6, _, rfl, _, _⟩ := id h6
      refine next_ret ?_
      refine cb1_ok ?_
      refine ⟨_, rfl, ?_⟩
      refine rep_ok (num_dp h6) okS ?_
      refine cb1_ok ?_
      have s03 := s02.trans s3
      refine ⟨_, rfl, _, rfl, _, rfl, _, rfl, by show 1 ≤ sizeLine; decide, fun L hL => ?_⟩
      have sL : Same H3 (upd H3 L (.lst [.int ((placesL r).length : Nat)])) := same_upd hL
      refine ⟨rg, L, [((placesL r).length : Nat)], ordL r, 1, rfl, he, sL.seq (s03.seq hG), .inl (SqL.of upd_same), by show 1 ≤ 100; decide, by decide, by decide, fun vn H4 s4 hvn => ?_⟩
      rw [rof_eq h14] at hvn
      have bn : ∀ t ∈ (whN r ((placesL r).length : Nat)).1, -(2 ^ 64) < t ∧ t < 2 ^ 64 := fun t ht => by
        rcases List.mem_cons.mp ht with rfl | z
        · omega
        · rw [(List.mem_replicate.mp z).2]
          omega
      refine ⟨ordL r, _, _, _, _, rfl, he, (sL.trans s4).num h5, hvn, numOk_of h14 c5 (by omega), numOk_of h14 (numC_wh h14 _) (by show (1 : Int) ≤ 1000; decide), .inr bn, fun vp H5 s5 hvp => ?_⟩
      rw [← loud_all h14 C] at hvp
      obtain ⟨t7, _, rfl, _, _⟩ := id hvp
      refine rep_ok (num_dp hvp) okS ?_
      refine eq_same ?_
      exact k _ ((s03.trans sL).trans (s4.trans s5))
end
end K09

/-! whole rows. -/
namespace K09
open PySem PySem.Spec PyProof.Rows L2
section
variable {P : Program} {w : World} {K : PySem.W.Frag} {mg : Str → Option Value} {base : Heap} {f f1 f2 f3 f4 f5 C fI fM : Addr} {fd fd1 fd2 fd3 fd4 fd5 fdI : FuncData}
def spWhole (K : PySem.W.Frag) (b : V) : Sp := fun vs H Q _ => ∃ (v u : V) (r xs : List Int), vs = [v, u] ∧ TupI K H v r ∧ TupI K H u xs ∧ r ∈ RR ∧ xs.length = (placesL r).length ∧ ∀ H', Same H H' → Q b H'
theorem scIsWhole : FnScope ["rings", "thing", "size"] ["rings", "thing"] (defScope sIsWhole) := ⟨rfl, rfl, rfl, by decide +kernel, rfl, by decide +kernel, by decide +kernel⟩
theorem ok_isWhole (F : FnP K "is_whole" sIsWhole f fd) (B : Bl mg) (F1 : FnP K "size_of" sSizeOf f1 fd1) (g1 : mg "size_of" = some (.ref f1)) (G1 : FnOk P w K mg base CX0 5 f1 fd1 ["rings"] (spSzOf K)) (F2 : FnP K "is_integers" sIsInts f2 fd2) (g2 : mg "is_integers" = some (.ref f2)) (G2 : FnOk P w K mg base CX0 2 f2 fd2 ["thing"] (spIsInts K)) : FnOk P w K mg base CX0 6 f fd ["rings", "thing"] (spWhole K (.bl true)) := by
  have b1 : Binds K fd1 ["rings"] [] := F1.bindsN fun _ _ _ _ _ _ us hl => match us, hl with | [_], _ => rfl
  have b2 : Binds K fd2 ["thing"] [] := F2.bindsN fun _ _ _ _ _ _ us hl => match us, hl with | [_], _ => rfl
  refine F.ok scIsWhole (fun vs H Q E h => ?_) (fun cdv A outer s H vs Q E hr h => ?_)
  · obtain ⟨v, u, r, xs, rfl, _⟩ := h
    rfl
  · obtain ⟨v, u, r, xs, rfl, ha, hu, h14, hl, k⟩ := h
    refine ⟨_, PSs.nox (pss_cons (ps_set (i := 2) scIsWhole.nd rfl (Or.inl rfl) (pe_call G1 hr rfl g1 F1.kp b1 .nil pass0 (pa_cons (pv 0) pa_nil)))
      (pss_one (ps_ret (pe_and (pe_call G2 (hr.mono (by decide)) rfl g2 F2.kp b2 .nil pass0 (pa_cons (pv 1) pa_nil)) (pe_one (pe_cmpR op_eq (pe_callB call_len_seq (by rfl) (B "len" (by decide +kernel)) PySem.boot_len (pa_cons (pv 1) pa_nil)) (pv 2) (nomark _))))))), ?_⟩
    have h16 := rr_pl0 r h14
    obtain ⟨t, rfl, ht⟩ := hu
    refine ⟨_, rfl, _, r, rfl, ha, h14, fun H1 s1 => ?_⟩
    refine ⟨_, rfl, _, xs, rfl, ⟨t, rfl, s1.tup ht⟩, by omega, fun H2 s2 => ?_⟩
    have t2 := s1.trans s2
    refine ⟨_, rfl, _, rfl, t, _, rfl, .inr (t2.tup ht), _, rfl, rfl, ?_⟩
    have e : decide (V.int (((xs.map V.int).length : Nat) : Int) = V.int (sizeL r)) = true := decide_eq_true (by rw [List.length_map, hl, rr_szl r h14])
    show Q (.bl (decide (V.int (((xs.map V.int).length : Nat) : Int) = V.int (sizeL r)))) H2
    rw [e]
    exact k H2 t2
theorem scChkWhole : FnScope ["rings", "whole"] ["rings", "whole"] (defScope sChkWhole) := ⟨rfl, rfl, rfl, by decide +kernel, rfl, by decide +kernel, by decide +kernel⟩
theorem ok_chkWhole (F : FnP K "check_whole" sChkWhole f fd) (F1 : FnP K "is_whole" sIsWhole f1 fd1) (g1 : mg "is_whole" = some (.ref f1)) (G1 : FnOk P w K mg base CX0 6 f1 fd1 ["rings", "thing"] (spWhole K (.bl true))) : FnOk P w K mg base CX0 7 f fd ["rings", "whole"] (spWhole K .non) := by
  have b1 : Binds K fd1 ["rings", "thing"] [] := F1.bindsN fun _ _ _ _ _ _ us hl => match us, hl with | [_, _], _ => rfl
  refine F.ok scChkWhole (fun vs H Q E h => ?_) (fun cdv A outer s H vs Q E hr h => ?_)
  · obtain ⟨v, u, r, xs, rfl, _⟩ := h
    rfl
  · obtain ⟨v, u, r, xs, rfl, ha, hu, h14, hl, k⟩ := h
    refine ⟨_, PSs.nox (pss_one (ps_if (pt_not (pt_val (pe_call G1 hr rfl g1 F1.kp b1 .nil pass0 (pa_cons (pv 0) (pa_cons (pv 1) pa_nil))))) (pss_one ps_never) pss_nil)), ?_⟩
    exact ⟨_, rfl, _, rfl, _, _, r, xs, rfl, ha, hu, h14, hl, fun H1 s1 => ⟨_, rfl, iteF (k H1 s1)⟩⟩
end
end K09

/-! tuple * 0, tuple * 1. -/
namespace K09
open PySem PySem.Spec PyProof.Rows L2
theorem tuple_mul0 (l : Addr) (items : Array Value) (n : Nat) (dd : Option Addr) (sl : Array (Option Value)) (u : Tok) (hne : items.isEmpty = false) :
    Meets (Builtin.«tuple.__mul__» ⟨[.ref l, .int 0 u], []⟩) (fun _ R s => s.heap.get? l = some { cls := .type "tuple", dict := dd, data := .seq items n, slots := sl } ∧
      R (.ok (.ret (Value.ref s.heap.objs.size))) { s with heap := s.heap.push { cls := Value.type "tuple", data := Data.seq #[] }, toks := s.toks }) :=
  .of_wp fun prog w A R s h => by
    obtain ⟨hp, g, d, tk, os⟩ := s
    obtain ⟨hl, h⟩ := h
    have f1 := AutoSeq1.idx_int
    have c1 : (items.isEmpty || (0 : Int) == 1) = false := by rw [hne]; rfl
    wp_walk using wpAny_loadPart' hl
    exact ⟨_, rfl, h⟩
theorem tuple_mul1 (l : Addr) (items : Array Value) (n : Nat) (dd : Option Addr) (sl : Array (Option Value)) (u : Tok) :
    Meets (Builtin.«tuple.__mul__» ⟨[.ref l, .int 1 u], []⟩) (fun _ R s => s.heap.get? l = some { cls := .type "tuple", dict := dd, data := .seq items n, slots := sl } ∧ R (.ok (.ret (Value.ref l))) s) :=
  .of_wp fun prog w A R s h => by
    obtain ⟨hp, g, d, tk, os⟩ := s
    obtain ⟨hl, h⟩ := h
    have f1 := AutoSeq1.idx_int
    wp_walk using wpAny_loadPart' hl
    exact ⟨_, rfl, h⟩
def rRepT1 (K : PySem.W.Frag) : R2 := fun x y H Q => ∃ l xs, x = .ref l ∧ y = .int 1 ∧ SqT K H l xs ∧ Q (.ref l) H
section
variable {X : Cx}
theorem op_repT1 : OpR X (binaryOp .Mult) (rRepT1 X.K) := by
  intro pins s σ H x y v u Q I rx ry h
  obtain ⟨l, xs, rfl, rfl, hT, q⟩ := h
  cases rx
  obtain ⟨t, rfl⟩ := ry
  obtain ⟨its, r, ⟨⟨cls, dd, data, sl⟩, ho, hc, n, hd⟩, hs⟩ := I.tuple hT
  simp only at hc hd
  subst hc hd
  refine wpAny_binaryOp_repeat_ref (T := "tuple") (U := "int") (by decide) ⟨_, ho, rfl⟩ (fun s' => typeIs_int s' 1 t) noFill_tuple_mul F.fills_int_mul F.slot_int_rmul repeat_tuple F.slot_int_index.lookup
    (call_meets F.slot_int_rmul (typeIs_int s 1 t) F.entry_int_rmul (F.args_int_rmul_2 _ _) (int_rmul_tuple 1 t l its.toArray n dd sl)
      ⟨ho, rfl, ⟨_, ho, rfl⟩, call_meets F.slot_tuple_mul ⟨_, ho, rfl⟩ F.entry_tuple_mul (F.args_tuple_mul_2 _ _) (tuple_mul1 l its.toArray n dd sl t) ⟨ho, ?_⟩⟩)
  exact ⟨.ref l, H, I, rfl, q⟩
def rRepT0 (K : PySem.W.Frag) : R2 := fun x y H Q => ∃ l xs, x = .ref l ∧ y = .int 0 ∧ SqT K H l xs ∧ xs ≠ [] ∧ ∀ p, H p = none → Q (.ref p) (upd H p (.tup []))
theorem op_repT0 : OpR X (binaryOp .Mult) (rRepT0 X.K) := by
  intro pins s σ H x y v u Q I rx ry h
  obtain ⟨l, xs, rfl, rfl, hT, hxs, q⟩ := h
  cases rx
  obtain ⟨t, rfl⟩ := ry
  obtain ⟨its, r, ⟨⟨cls, dd, data, sl⟩, ho, hc, n, hd⟩, hs⟩ := I.tuple hT
  simp only at hc hd
  subst hc hd
  have hle : its.length = xs.length := r.length.symm
  have hi : its.toArray.isEmpty = false := by
    cases its with
    | nil => exact absurd (List.eq_nil_of_length_eq_zero hle.symm) hxs
    | cons a b => rfl
  refine wpAny_binaryOp_repeat_ref (T := "tuple") (U := "int") (by decide) ⟨_, ho, rfl⟩ (fun s' => typeIs_int s' 0 t) noFill_tuple_mul F.fills_int_mul F.slot_int_rmul repeat_tuple F.slot_int_index.lookup
    (call_meets F.slot_int_rmul (typeIs_int s 0 t) F.entry_int_rmul (F.args_int_rmul_2 _ _) (int_rmul_tuple 0 t l its.toArray n dd sl)
      ⟨ho, rfl, ⟨_, ho, rfl⟩, call_meets F.slot_tuple_mul ⟨_, ho, rfl⟩ F.entry_tuple_mul (F.args_tuple_mul_2 _ _) (tuple_mul0 l its.toArray n dd sl t hi) ⟨ho, ?_⟩⟩)
  refine ⟨.ref s.heap.objs.size, _, I.laid (t' := s.toks) (o := .tup []) (fun b ob q => Heap.get?_push_of_some _ q) (Nat.le_refl _) ?_, rfl, q _ (I.hok.fresh (Nat.le_refl _))⟩
  exact ⟨Nat.zero_le _, [], .nil, IsTup.new _ _⟩
end
/-- (0,) * k, k from 0 on -/
theorem rep_any {K : PySem.W.Frag} {H : Hp} {p0 : Addr} {m : Nat} {Q : VK} (h0 : SqT K H p0 [V.int 0]) (h2 : m ≤ 1000) (key : ∀ q H', Same H H' → SqT K H' q (List.replicate m (V.int 0)) → Q (.ref q) H') :
    rRepT0 K (.ref p0) (.int (m : Int)) H Q ∨ rRepT1 K (.ref p0) (.int (m : Int)) H Q ∨ rRepT K (.ref p0) (.int (m : Int)) H Q := by
  match m, h2, key with
  | 0, _, key => exact .inl ⟨p0, _, rfl, rfl, h0, by simp, fun p hp => key p _ (same_upd hp) (SqT.of upd_same)⟩
  | 1, _, key => exact .inr (.inl ⟨p0, _, rfl, rfl, h0, key p0 H (Same.refl H) h0⟩)
  | n + 2, h2, key => exact .inr (.inr ⟨p0, _, _, rfl, rfl, h0, by simp, by omega, by omega, by decide, fun p hp => key p _ (same_upd hp) (SqT.of (by rw [upd_same, Int.toNat_natCast, rep_flat]))⟩)
end K09

/-! row_of. -/
namespace K09
open PySem PySem.Spec PyProof.Rows L2
theorem g_noT {a e po d pl} : (flds a e po d pl).lookup ("tops_of" : Str) = none := by
  unfold flds
  rw [lk (by decide +kernel), lk (by decide +kernel), lk (by decide +kernel), lk (by decide +kernel), lk (by decide +kernel)]
  rfl
section
variable {P : Program} {w : World} {K : PySem.W.Frag} {mg : Str → Option Value} {base : Heap} {f f1 f2 f3 f4 f5 C fI fM fT : Addr} {fd fd1 fd2 fd3 fd4 fd5 fdI fdT : FuncData}
def spTopsOf (K : PySem.W.Frag) (C : Addr) : Sp := fun vs H Q _ => ∃ (p : Addr) (x : Int) (r : List Int), vs = [.ref p, .int x] ∧ FloorAt K C H p r ∧ r ∈ RR ∧ ∀ t H', Same H H' → SqT K H' t ((whN r x).1.map V.int) → Q (.ref t) H'
theorem scTopsOf : FnScope ["self", "whole"] ["self", "whole"] (defScope sFTops) := ⟨rfl, rfl, rfl, by decide +kernel, rfl, by decide +kernel, by decide +kernel⟩
theorem ok_topsOf (F : FunD K "tops_of" "Floor.tops_of" (defArgs sFTops) (defBody sFTops) (defScope sFTops) [] [] f fd) (T : FlT K mg C fI fM) (aG : NoAttr K C "degree") : FnOk P w K mg base CX0 1 f fd ["self", "whole"] (spTopsOf K C) := by
  refine F.ok scTopsOf (fun vs H Q E h => ?_) (fun cdv A outer s H vs Q E hr h => ?_)
  · obtain ⟨p, x, r, rfl, _⟩ := h
    rfl
  · obtain ⟨p, x, r, rfl, hF, h14, k⟩ := h
    refine ⟨_, PSs.nox (pss_one (ps_ret (pe_op op_catA (pe_tup (pa_cons (pv 1) pa_nil)) (pe_op (op_repT0.or (op_repT1.or op_repT)) (pe_tup (pa_cons pe_int pa_nil)) (pe_op op_sub (pe_fld (pv 0) rfl) pe_int))))), ?_⟩
    obtain ⟨dx, ar, po, pl, h1, h2, h3, h4⟩ := id hF
    have ep := er_poly _ (er_in r h14)
    have eb := er_bd _ (er_in r h14)
    refine ⟨_, rfl, by show 1 ≤ sizeLine; decide, fun a ha => ?_⟩
    have sa : Same H (upd H a (.tup [.int x])) := same_upd ha
    refine ⟨by show 1 ≤ sizeLine; decide, fun z hz => ?_⟩
    have sz := same_new (o := .tup [.int 0]) sa hz
    refine ⟨_, rfl, p, C, dx, _, _, rfl, sz _ _ h1, T.cl, aG, g_degree, _, _, rfl, rfl, ?_⟩
    have em : ((polyL (ordL r)).length : Int) - 1 - 1 = (((polyL (ordL r)).length - 2 : Nat) : Int) := by omega
    show rRepT0 K (.ref z) (.int (((polyL (ordL r)).length : Int) - 1 - 1)) _ _ ∨ rRepT1 K (.ref z) (.int (((polyL (ordL r)).length : Int) - 1 - 1)) _ _ ∨ rRepT K (.ref z) (.int (((polyL (ordL r)).length : Int) - 1 - 1)) _ _
    rw [em]
    refine rep_any (SqT.of upd_same) (by omega) fun q H' s1 hq => ?_
    have hA : SqT K H' a [V.int x] := s1.tup ((same_upd hz).tup (SqT.of upd_same))
    have s2 := sz.trans s1
    refine ⟨a, q, _, _, rfl, rfl, hA, hq, sl_1000 (by rw [List.length_replicate]; show 1 + _ ≤ _; omega), fun z => by simp at z, fun _ hz => ?_, fun _ _ p2 hp2 => ?_⟩
    · refine k a H' s2 ?_
      have e : (polyL (ordL r)).length - 2 = 0 := by
        have := congrArg List.length hz
        rw [List.length_replicate] at this
        exact this
      unfold whN
      rw [e]
      exact hA
    · refine k p2 _ (s2.trans (same_upd hp2)) (SqT.of ?_)
      rw [upd_same]
      unfold whN
      simp
def spRO (K : PySem.W.Frag) : Sp := fun vs H Q _ => ∃ (v u : V) (r xs : List Int), vs = [v, u] ∧ TupI K H v r ∧ TupI K H u xs ∧ r ∈ RR ∧ xs.length = (placesL r).length ∧ ∀ v' H', Same H H' → RowAt K H' v' (rofL r xs) → Q v' H'
abbrev roN : List Str := ["rings", "whole", "floor", "item"]
theorem scRO : FnScope roN ["rings", "whole"] (defScope sRowOf) := ⟨rfl, rfl, rfl, by decide +kernel, rfl, by decide +kernel, by decide +kernel⟩
theorem ok_rowOf (F : FnP K "row_of" sRowOf f fd) (B : Bl mg) (T : FlT K mg C fI fM) (MT : Meth K C "tops_of" fT) (FI : FunD K "__init__" "Floor.__init__" (defArgs sFInit) (defBody sFInit) (defScope sFInit) [] [] fI fdI) (GI : FnOk P w K mg base CX0 3 fI fdI ["self", "rings"] (spFInit K C))
    (FT : FunD K "tops_of" "Floor.tops_of" (defArgs sFTops) (defBody sFTops) (defScope sFTops) [] [] fT fdT) (GT : FnOk P w K mg base CX0 1 fT fdT ["self", "whole"] (spTopsOf K C))
    (F1 : FnP K "check_whole" sChkWhole f1 fd1) (g1 : mg "check_whole" = some (.ref f1)) (G1 : FnOk P w K mg base CX0 7 f1 fd1 ["rings", "whole"] (spWhole K .non)) : FnOk P w K mg base CX0 8 f fd ["rings", "whole"] (spRO K) := by
  have bI : Binds K fdI ["self", "rings"] [] := FI.bindsN fun _ _ _ _ _ _ us hl => match us, hl with | [_, _], _ => rfl
  have bT : Binds K fdT ["self", "whole"] [] := FT.bindsN fun _ _ _ _ _ _ us hl => match us, hl with | [_, _], _ => rfl
  have b1 : Binds K fd1 ["rings", "whole"] [] := F1.bindsN fun _ _ _ _ _ _ us hl => match us, hl with | [_, _], _ => rfl
  refine F.ok scRO (fun vs H Q E h => ?_) (fun cdv A outer s H vs Q E hr h => ?_)
  · obtain ⟨v, u, r, xs, rfl, _⟩ := h
    rfl
  · obtain ⟨v, u, r, xs, rfl, ⟨a, rfl, ha⟩, hu, h14, hl, k⟩ := h
    refine ⟨_, PSs.nox (pss_cons (ps_expr (pe_call G1 hr rfl g1 F1.kp b1 .nil pass0 (pa_cons (pv 0) (pa_cons (pv 1) pa_nil))))
      (pss_cons (ps_set (i := 2) scRO.nd rfl (Or.inr rfl) (pe_make T.mkk GI (hr.mono (by decide)) rfl T.mgC bI .nil pass0 (pa_cons (pv 0) pa_nil)))
      (pss_one (ps_ret (pe_callTy call_tuple_of (by rfl) (B "tuple" (by decide +kernel)) (by decide +kernel) (pa_cons
        (pe_lc (own := [("item", 3)]) (g := gName 3) (tt := tYes) (te := tTup (tCons (tMeth C "tops_of" (spTopsOf K C) [] E0 (tVar 2) (tCons (tVar 3) tNil)) (tCons (tC (.int 1)) tNil))) rfl scRO.nd (pi_tup (pv 1)) (blkOk_by (own := [("item", 3)]) (N := roN) (sc := defScope sRowOf) (by decide +kernel))
          (fun _ _ _ _ _ => pg_name (i := 3) scRO.nd rfl (Or.inl rfl)) (fun _ _ _ _ _ => pts_nil) (fun _ _ _ _ _ => pe_tup (pa_cons (pe_meth (pv 2) T.cl MT GT (hr.mono (by decide)) bT .nil pass0 (pa_cons (pv 3) pa_nil)) (pa_cons pe_int pa_nil)))) pa_nil)))))), ?_⟩
    obtain ⟨q, rfl, hq⟩ := hu
    have h16 := rr_pl0 r h14
    refine ⟨_, rfl, _, rfl, _, _, r, xs, rfl, ⟨a, rfl, ha⟩, ⟨q, rfl, hq⟩, h14, hl, fun H1 s1 => ?_⟩
    refine ⟨_, rfl, fun p dx np ndx nex => ?_⟩
    have tn : Same H1 (upd (upd H1 dx (.own p)) p (.ins C dx [])) := same_new (same_upd ndx) (by rw [upd_ne (Ne.symm nex)]; exact np)
    refine ⟨p, dx, _, r, rfl, upd_same, ⟨a, rfl, tn.tup (s1.tup ha)⟩, h14, fun H3 hF kp => ⟨rfl, ?_⟩⟩
    have s3 : Same H1 H3 := Same.made np ndx kp
    have t3 := s1.trans s3
    obtain ⟨dx', ar, po, pl, h1, h2, h3, h4⟩ := id hF
    refine ⟨_, rfl, q, rfl, ⟨_, t3.tup hq⟩, fun D hD => ?_⟩
    have tl : (rofL r xs).length = xs.length := by
      unfold rofL
      rw [List.length_map]
    refine lc_tup (K := K) (a := q) (xs := xs.map V.int) (fun i H4 => Same H3 H4 ∧ ∃ vs, H4 D = some (.lst vs) ∧ Nums K H4 vs ((rofL r xs).take i)) ⟨same_upd hD, [], upd_same, by rw [List.take_zero]; exact nums_nil⟩ (fun i H4 _ ⟨s4, _⟩ => s4.tup (t3.tup hq)) ?_ ?_
    · rintro i y H4 hi ⟨s4, vs, h4', tn4⟩
      obtain ⟨x, rfl, hx⟩ := getI hi
      have il := ltL hx
      refine ⟨rfl, _, rfl, p, dx', _, rfl, s4 _ _ h1, g_noT, _, rfl, p, x, r, rfl, s4.floor hF, h14, fun t H5 s5 ht => ?_⟩
      refine ⟨by show 2 ≤ sizeLine; decide, fun p2 hp2 => ?_⟩
      have s6 : Same H5 (upd H5 p2 (.tup [.ref t, .int 1])) := same_upd hp2
      generalize hH6 : upd H5 p2 (.tup [.ref t, .int 1]) = H6 at s6
      have hv' : NumAt K H6 (.ref p2) (whN r x) := ⟨p2, t, rfl, SqT.of (by rw [← hH6, upd_same]; rfl), s6.tup ht⟩
      have ul := tn4.1
      rw [List.length_take, tl] at ul
      have ev : (rofL r xs)[i]? = some (whN r x) := by
        unfold rofL
        rw [List.getElem?_map, hx]
        rfl
      have s56 := s5.trans s6
      refine ⟨vs, s56 _ _ h4', sl_lt (by omega), same_at (s4.trans s56) hD, vs ++ [.ref p2], upd_same, ?_⟩
      rw [takeS ev]
      have tn6 := s56.nums tn4
      have num_up : ∀ {v : V} {n : Num}, NumAt K H6 v n → NumAt K (upd H6 D (.lst (vs ++ [.ref p2]))) v n := fun ⟨p', t', e', q1, q2⟩ => ⟨p', t', e', sqt_at q1 (s56 _ _ h4'), sqt_at q2 (s56 _ _ h4')⟩
      exact Nums.snoc ⟨tn6.1, fun i v n e1 e2 => num_up (tn6.2 i v n e1 e2)⟩ (num_up hv')
    · rintro H4 ⟨s4, vs, h4', tn4⟩
      rw [List.length_map, ← tl, List.take_length] at tn4
      refine ⟨D, vs, rfl, .inl ⟨SqL.of h4', fun p2 hp2 => ?_⟩⟩
      have sp : Same H4 (upd H4 p2 (.tup vs)) := same_upd hp2
      exact k _ _ ((t3.trans s4).trans sp) ⟨p2, vs, rfl, SqT.of upd_same, sp.nums tn4⟩
end
end K09

/-! turn. -/
namespace K09
open PySem PySem.Spec PyProof.Rows L2
section
variable {P : Program} {w : World} {K : PySem.W.Frag} {mg : Str → Option Value} {base : Heap} {f f1 f2 f3 f4 f5 : Addr} {fd fd1 fd2 fd3 fd4 fd5 : FuncData}
def spTurn (K : PySem.W.Frag) : Sp := fun vs H Q _ => ∃ (e p : Int), vs = [.int e, .int p] ∧ e ∈ ER ∧ ∀ v' H', Same H H' → NumAt K H' v' (turnL e p) → Q v' H'
theorem scTurn : FnScope ["order", "power"] ["order", "power"] (defScope sTurn) := ⟨rfl, rfl, rfl, by decide +kernel, rfl, by decide +kernel, by decide +kernel⟩
theorem ok_turn (F : FnP K "turn" sTurn f fd) (F1 : FnP K "check_order" sChkO f1 fd1) (g1 : mg "check_order" = some (.ref f1)) (G1 : FnOk P w K mg base CX0 3 f1 fd1 ["order"] (spOrd .non)) (F2 : FnP K "polynomial_of" sPoly f2 fd2) (g2 : mg "polynomial_of" = some (.ref f2)) (G2 : FnOk P w K mg base CX0 2 f2 fd2 ["order"] (spPoly K))
    (F3 : FnP K "reduced" sRed f3 fd3) (g3 : mg "reduced" = some (.ref f3)) (G3 : FnOk P w K mg base CX0 2 f3 fd3 ["items", "polynomial"] (spRed K)) : FnOk P w K mg base CX0 4 f fd ["order", "power"] (spTurn K) := by
  have b1 : Binds K fd1 ["order"] [] := F1.bindsN fun _ _ _ _ _ _ us hl => match us, hl with | [_], _ => rfl
  have b2 : Binds K fd2 ["order"] [] := F2.bindsN fun _ _ _ _ _ _ us hl => match us, hl with | [_], _ => rfl
  have b3 : Binds K fd3 ["items", "polynomial"] [] := F3.bindsN fun _ _ _ _ _ _ us hl => match us, hl with | [_, _], _ => rfl
  refine F.ok scTurn (fun vs H Q E h => ?_) (fun cdv A outer s H vs Q E hr h => ?_)
  · obtain ⟨e, p, rfl, _⟩ := h
    rfl
  · obtain ⟨e, p, rfl, he, k⟩ := h
    refine ⟨_, PSs.nox (pss_cons (ps_expr (pe_call G1 hr rfl g1 F1.kp b1 .nil pass0 (pa_cons (pv 0) pa_nil)))
      (pss_one (ps_ret (pe_tup (pa_cons (pe_call G3 (hr.mono (by decide)) rfl g3 F3.kp b3 .nil pass0 (pa_cons (pe_op op_cat (pe_op op_rep (pe_lst (pa_cons pe_int pa_nil)) (pe_op op_mod (pv 1) (pv 0))) (pe_lst (pa_cons pe_int pa_nil))) (pa_cons (pe_call G2 (hr.mono (by decide)) rfl g2 F2.kp b2 .nil pass0 (pa_cons (pv 0) pa_nil)) pa_nil))) (pa_cons pe_int pa_nil)))))), ?_⟩
    have ep := er_poly e he
    have eb := er_bd e he
    have m0 := Int.emod_nonneg p (show e ≠ 0 by omega)
    have m1 := Int.emod_lt_of_pos p (show 0 < e by omega)
    refine ⟨_, rfl, e, rfl, by omega, by omega, ?_⟩
    refine ⟨by show 1 ≤ sizeLine; decide, fun z hz => ?_⟩
    have sz : Same H (upd H z (.lst [.int 0])) := same_upd hz
    refine ⟨_, rfl, _, rfl, _, _, rfl, rfl, by omega, z, _, _, rfl, rfl, upd_same, by omega, by omega, sl_1000 (by simp; omega), fun y hy => ?_⟩
    rw [rep_flat]
    have sy := same_new (o := .lst (List.replicate (p % e).toNat (V.int 0))) sz hy
    refine ⟨by show 1 ≤ sizeLine; decide, fun o ho => ?_⟩
    have so := same_new (o := .lst [.int 1]) sy ho
    generalize hH3 : upd (upd (upd H z (.lst [.int 0])) y (.lst (List.replicate (p % e).toNat (V.int 0)))) o (.lst [.int 1]) = H3 at so
    have yo : y ≠ o := ne_of_none upd_same ho
    have h3y : H3 y = some (.lst (List.replicate (p % e).toNat (V.int 0))) := by rw [← hH3, upd_ne yo, upd_same]
    have h3o : H3 o = some (.lst [.int 1]) := by rw [← hH3, upd_same]
    refine ⟨y, o, _, _, rfl, rfl, h3y, h3o, sl_1000 (by rw [List.length_replicate]; show _ + 1 ≤ _; omega), fun c hc => ?_⟩
    have sc := same_new (o := .lst (List.replicate (p % e).toNat (V.int 0) ++ [.int 1])) so hc
    refine ⟨_, rfl, e, rfl, he, fun po H4 s4 npo h4 => ?_⟩
    refine ⟨c, po, List.replicate (p % e).toNat 0 ++ [1], polyL e, rfl, SqL.of (s4 _ _ (by rw [upd_same]; simp)), SqT.of h4, ep.1, by omega, ?_, ep.2.2, fun t H5 s5 nt h5 => ?_⟩
    · rw [List.length_append, List.length_replicate]
      show _ + 1 ≤ 100
      omega
    · refine ⟨by show 2 ≤ sizeLine; decide, fun q hq => ?_⟩
      have sq := same_new (o := .tup [.ref t, .int 1]) ((sc.trans s4).trans s5) hq
      exact k (.ref q) _ sq ⟨q, t, rfl, SqT.of upd_same, (same_upd hq).tup (SqT.of h5)⟩
end
end K09

/-! The law's look at two rings: the row along one ring. -/
namespace K09
open PySem PySem.Spec PyProof.Rows L2
theorem rowS_rof {r : List Int} (hr : r ∈ RR) {xs : List Int} (hl : xs.length = (placesL r).length) : RowS r 6 (rofL r xs) := by
  refine ⟨rowC_rof hr hl, fun n hn => ?_⟩
  obtain ⟨x, _, rfl⟩ := List.mem_map.mp hn
  exact ⟨6, rfl⟩
theorem abs_rof {r : List Int} {xs : List Int} {M : Nat} (h : Abs M xs) : AbsR M (rofL r xs) := fun n hn => by
  obtain ⟨x, hx, rfl⟩ := List.mem_map.mp hn
  intro t ht
  rcases List.mem_cons.mp ht with rfl | z
  · exact h _ hx
  · rw [(List.mem_replicate.mp z).2]
    simp
theorem bd_of {r : List Int} (hr : r ∈ RR) {D : Int} {ns : List Num} {M : Nat} (h : RowS r D ns) (hD : 1 ≤ D) (hD2 : D ≤ 1000) (ha : AbsR M ns) (hM : M < 2 ^ 150) : Bd ns := fun n hn => by
  have c := h.c.num n hn
  have := Int.le_of_dvd (by omega) (h.d n hn)
  have p := c.pos
  refine ⟨fun t ht => Nat.lt_of_le_of_lt (ha n hn t ht) hM, ?_, by rw [c.len]; exact dg_le hr⟩
  have e : n.2.natAbs < 1001 := by omega
  exact Nat.lt_of_lt_of_le e (by decide)
theorem okd_of {r : List Int} (hr : r ∈ RR) {D : Int} {ns : List Num} {M : Nat} (h : RowS r D ns) (hD : 1 ≤ D) (hD2 : D ≤ 1000) (ha : AbsR M ns) (hM : M < 2 ^ 150) : OkD 4 560 (rowD ns) := okd_row (bd_of hr h hD hD2 ha hM) (by rw [h.c.len]; exact (pl_pos r hr).2)
theorem flat_succ (i b : Nat) (ws : List Int) : flatL (i + 1) b ws = flatL i b ws ++ (ws.getD i 0 :: List.replicate (b - 1) 0) := by
  unfold flatL
  rw [List.range_succ, List.flatMap_append]
  simp
theorem flat_take (a b : Nat) (ws : List Int) : flatL a b ws = flatL a b (ws.take a) := by
  have go : ∀ n, n ≤ a → flatL n b ws = flatL n b (ws.take a) := by
    intro n
    induction n with
    | zero => intro _; rfl
    | succ n ih =>
      intro hn
      rw [flat_succ, flat_succ, ih (by omega)]
      congr 2
      rw [List.getD_eq_getElem?_getD, List.getD_eq_getElem?_getD, List.getElem?_take, if_pos (by omega)]
  exact go a (Nat.le_refl _)
theorem nums_app {K : PySem.W.Frag} {H : Hp} {vs us : List V} {ns ms : List Num} (h1 : Nums K H vs ns) (h2 : Nums K H us ms) : Nums K H (vs ++ us) (ns ++ ms) := by
  refine ⟨by rw [List.length_append, List.length_append, h1.1, h2.1], fun i v n e1 e2 => ?_⟩
  by_cases c : i < vs.length
  · rw [List.getElem?_append_left c] at e1
    rw [List.getElem?_append_left (by rw [← h1.1]; exact c)] at e2
    exact h1.2 i v n e1 e2
  · rw [List.getElem?_append_right (by omega)] at e1
    rw [List.getElem?_append_right (by rw [← h1.1]; omega), ← h1.1] at e2
    exact h2.2 _ v n e1 e2
theorem nums_rep {K : PySem.W.Frag} {H : Hp} {v : V} {n : Num} (h : NumAt K H v n) (k : Nat) : Nums K H (List.replicate k v) (List.replicate k n) := by
  refine ⟨by rw [List.length_replicate, List.length_replicate], fun i w m e1 e2 => ?_⟩
  have a1 := List.eq_of_mem_replicate (List.mem_of_getElem? e1)
  have a2 := List.eq_of_mem_replicate (List.mem_of_getElem? e2)
  rw [a1, a2]
  exact h
theorem fdue_succ {a b i : Nat} {vs : List Num} {n : Num} (h : vs[i]? = some n) : fdue a b (vs.take (i + 1)) = fdue a b (vs.take i) ++ List.replicate b (liftL (a : Int) (ordL (r2 a b)) n) := by
  unfold fdue
  rw [takeS h, List.flatMap_append]
  simp
theorem fdue_len (a b : Nat) (vs : List Num) : (fdue a b vs).length = vs.length * b := by
  unfold fdue
  induction vs with
  | nil => simp
  | cons v vs ih =>
    rw [List.flatMap_cons, List.length_append, ih, List.length_replicate, List.length_cons, Nat.add_mul]
    omega
theorem slA_use {K : PySem.W.Frag} {H : Hp} {xa : Addr} {xs : List Int} {Q : VK} {lo hi : Option Int} {n m : Nat} (h : SqT K H xa (xs.map V.int)) (e1 : HT.sIx (xs.map V.int).length 0 lo = n) (e2 : HT.sIx (xs.map V.int).length (xs.map V.int).length hi = m) (q : ∀ v H', Same H H' → TupI K H' v ((xs.drop n).take (m - n)) → Q v H') : rSlA K (.ref xa) lo hi H Q := by
  refine ⟨xa, _, rfl, h, fun c => q _ H (Same.refl _) ⟨xa, rfl, ?_⟩, fun _ p hp => q _ _ (same_upd hp) ⟨p, rfl, ?_⟩⟩
  · rw [e1, e2] at c
    rw [List.length_map] at c
    rw [c.1, c.2, List.drop_zero, Nat.sub_zero, List.take_length]
    exact h
  · have e : cutV (xs.map V.int) lo hi = ((xs.drop n).take (m - n)).map V.int := by
      unfold cutV
      rw [e1, e2, List.map_take, List.map_drop]
    rw [← e]
    exact SqT.of upd_same
/-- the functions that the look calls -/
structure Fun1 (P : Program) (w : World) (K : PySem.W.Frag) (mg : Str → Option Value) (base : Heap) (x : Str) (st : Stmt) (n : Nat) (ps : List Str) (sp : Sp) where
  a : Addr
  d : FuncData
  F : FnP K x st a d
  g : mg x = some (.ref a)
  G : FnOk P w K mg base CX0 n a d ps sp
  b : L2.Binds K d ps []
structure FsB (P : Program) (w : World) (K : PySem.W.Frag) (mg : Str → Option Value) (base : Heap) where
  f_voices : Fun1 P w K mg base "voices" sVoices 8 ["rings", "row"] (spVoices K)
  f_voice : Fun1 P w K mg base "voice" sVoice 8 ["rings", "row", "label"] (spVoice K)
  f_row_of : Fun1 P w K mg base "row_of" sRowOf 8 ["rings", "whole"] (spRO K)
  f_lifted : Fun1 P w K mg base "lifted" sLifted 6 ["order", "number", "other"] (spLift K)
  f_plus : Fun1 P w K mg base "plus" sPlus 6 ["order", "one", "other"] (spPlus K)
  f_times : Fun1 P w K mg base "times" sTimes 6 ["order", "one", "other"] (spTimes K)
  f_turn : Fun1 P w K mg base "turn" sTurn 4 ["order", "power"] (spTurn K)
  f_l_draw : Fun1 P w K mg base "_law_draw" sDraw 1 ["deck", "many"] spDraw
  f_l_order : Fun1 P w K mg base "_law_order" sLOrder 2 ["rings"] (spLOrder K)
  f_l_ring : Fun1 P w K mg base "_law_ring" sLRing 1 ["e"] (spLRing K)
  f_l_made : Fun1 P w K mg base "_law_made" sLMade 2 ["ring", "sums", "bottom"] (spLMade K)
abbrev lbN : List Str := ["deck", "one", "other", "rings", "e", "whole", "ring", "row", "k", "l", "found", "x", "near", "flat", "told", "due", "sound", "at"]
theorem scLB : FnScope lbN ["deck", "one", "other"] (defScope sLBeside) := ⟨rfl, rfl, rfl, by decide +kernel, rfl, by decide +kernel, by decide +kernel⟩
abbrev lbB : List Stmt := defBody sLBeside
theorem lbB_len : lbB.length = 13 := by kernel_rfl
section
variable {P : Program} {w : World} {K : PySem.W.Frag} {mg : Str → Option Value} {base : Heap} {f : Addr} {cdv : Value} {A : Around} {outer : List Env} {s0 : Shared} {H0 : Hp} {E : XK}
theorem bpart6 (Z : FsB P w K mg base) (B : Bl mg) (hA : A.guards = some []) (hr : Room 8 (A.deeper (envOfC "_law_is_beside_right" (defScope sLBeside) s0.heap.objs.size f cdv))) :
    ∃ t, PSs (cxOf CX0 P w K mg base lbN "_law_is_beside_right" (defScope sLBeside) f cdv A outer s0 H0 E).nox (lbB.drop 6) t ∧ ∀ (k : Ends) (a b : Nat) (vr : V) (xa : Addr) (xs : List Int) (x0 x6 x7 x8 x9 x10 x11 x12 x13 x14 x15 x16 : Option V) (H : Hp),
      (a, b) ∈ BL → TupI K H vr (r2 a b) → SqT K H xa (xs.map V.int) → xs.length = a * b → Abs 4 xs → (∀ H', Same H H' → k.rt (.bl true) H') →
      t k [x0, some (.int (a : Int)), some (.int (b : Int)), some vr, some (.int (ordL (r2 a b))), some (.ref xa), x6, x7, x8, x9, x10, x11, x12, x13, x14, x15, x16, none] H := by
  have hu := hu_of hr
  have cr : CallR (Cx.nox (cxOf CX0 P w K mg base lbN "_law_is_beside_right" (defScope sLBeside) f cdv A outer s0 H0 E)) (.builtin "repr") (rRepr K) := call_repr hA hr.units
  refine ⟨_, (pss_cons (ps_set (i := 13) scLB.nd rfl (Or.inl rfl) (pe_lst pa_nil))
    (pss_cons (ps_for PassesOwn.never rfl (pi_range1 (by rfl) (B "range" (by decide +kernel)) (pa_cons (pv 1) pa_nil)) (pg_name (i := 11) scLB.nd rfl (Or.inl rfl))
      (pss_one (ps_expr (pe_bm PySem.F.plainAttrs_list PySem.F.slot_list_extend PySem.F.type_list_extend mt_extend (pv 13) (pa_cons (pe_op op_cat (pe_lst (pa_cons (pe_ix ix_tup (pv 5) (pv 11) (fun _ _ => rfl)) pa_nil)) (pe_op op_rep (pe_lst (pa_cons pe_int pa_nil)) (pe_op op_sub (pv 2) pe_int))) pa_nil)))))
    (pss_cons (ps_set (i := 12) scLB.nd rfl (Or.inl rfl) (pe_call Z.f_voices.G hr (by rfl) Z.f_voices.g Z.f_voices.F.kp Z.f_voices.b .nil pass0 (pa_cons (pe_tup (pa_cons (pv 1) pa_nil)) (pa_cons (pe_call Z.f_row_of.G hr (by rfl) Z.f_row_of.g Z.f_row_of.F.kp Z.f_row_of.b .nil pass0 (pa_cons (pe_tup (pa_cons (pv 1) pa_nil)) (pa_cons (pe_slice sl_tupA (pv 5) po_none (po_some (pv 1))) pa_nil))) pa_nil))))
    (pss_cons (ps_set (i := 14) scLB.nd rfl (Or.inl rfl) (pe_call Z.f_voices.G hr (by rfl) Z.f_voices.g Z.f_voices.F.kp Z.f_voices.b .nil pass0 (pa_cons (pv 3) (pa_cons (pe_call Z.f_row_of.G hr (by rfl) Z.f_row_of.g Z.f_row_of.F.kp Z.f_row_of.b .nil pass0 (pa_cons (pv 3) (pa_cons (pe_callTy call_tuple_of (by rfl) (B "tuple" (by decide +kernel)) (by decide +kernel) (pa_cons (pv 13) pa_nil)) pa_nil))) pa_nil))))
    (pss_cons (ps_set (i := 15) scLB.nd rfl (Or.inl rfl) (pe_lst pa_nil))
    (pss_cons (ps_for PassesOwn.never rfl (pi_tup (pv 12)) (pg_name (i := 16) scLB.nd rfl (Or.inl rfl))
      (pss_one (ps_expr (pe_bm PySem.F.plainAttrs_list PySem.F.slot_list_extend PySem.F.type_list_extend mt_extend (pv 15) (pa_cons (pe_op op_rep (pe_lst (pa_cons (pe_call Z.f_lifted.G (hr.mono (by decide)) (by rfl) Z.f_lifted.g Z.f_lifted.F.kp Z.f_lifted.b .nil pass0 (pa_cons (pv 1) (pa_cons (pv 16) (pa_cons (pv 4) pa_nil)))) pa_nil)) (pv 2)) pa_nil)))))
    (pss_one (ps_ret (pe_cmpR op_eq (pe_callB cr (by rfl) (B "repr" (by decide +kernel)) (by decide +kernel) (pa_cons (pv 14) pa_nil)) (pe_callB cr (by rfl) (B "repr" (by decide +kernel)) (by decide +kernel) (pa_cons (pe_callTy call_tuple_of (by rfl) (B "tuple" (by decide +kernel)) (by decide +kernel) (pa_cons (pv 15) pa_nil)) pa_nil)) (nomark _)))))))))),
    fun k a b vr xa xs x0 x6 x7 x8 x9 x10 x11 x12 x13 x14 x15 x16 H hab hR hX xl xb kq => ?_⟩
  obtain ⟨h2, ha, hb, oa, ob, da, db, l2, la, lb, a1, b1⟩ := bl_ok _ hab
  dsimp only at h2 ha hb oa ob da db l2 la lb a1 b1
  have l16 := (pl_pos _ h2).2
  have a16 : a ≤ 16 := by have := (pl_pos _ ha).2; omega
  have b16 : b ≤ 16 := by have := (pl_pos _ hb).2; omega
  have ab16 : a * b ≤ 16 := by omega
  refine ⟨by decide, fun L hL => ?_⟩
  have s1 : Same H (upd H L (.lst [])) := same_upd hL
  have g1 : upd H L (.lst []) L = some (.lst ((flatL 0 b xs).map V.int)) := upd_same
  generalize upd H L (.lst []) = H1 at s1 g1
  refine set_ok ?_
  refine ⟨_, rfl, _, rfl, by omega, by omega, ?_⟩
  rw [Int.toNat_natCast]
  refine for_range (lo := 0) (n := a) (fun i σ H2 => ∃ u11, σ = [x0, some (V.int (a : Int)), some (.int (b : Int)), some vr, some (.int (ordL (r2 a b))), some (.ref xa), x6, x7, x8, x9, x10, u11, x12, some (.ref L), x14, x15, x16, none] ∧ Same H H2 ∧ H2 L = some (.lst ((flatL i b xs).map V.int))) ⟨x11, rfl, s1, g1⟩ ?_ ?_
  · rintro i σ H2 hi ⟨u11, rfl, s2, g2⟩
    have e0 : (0 : Int) + (i : Int) = (i : Int) := Int.zero_add _
    rw [e0]
    have fl := flat_len (a := i) b1 xs
    refine ⟨_, rfl, Or.inl ⟨rfl, _, SqL.of g2⟩, ?_⟩
    have hi2 : i < xs.length := by
      rw [xl]
      exact Nat.lt_of_lt_of_le hi (Nat.le_mul_of_pos_right a b1)
    refine ⟨_, rfl, _, rfl, xa, _, (i : Int), _, rfl, rfl, s2.tup hX, atI_nat (getD_of hi2), by show 1 ≤ sizeLine; decide, fun l1 hl1 => ?_⟩
    have t1 : Same H2 (upd H2 l1 (.lst [.int (xs.getD i 0)])) := same_upd hl1
    have k1 : upd H2 l1 (.lst [.int (xs.getD i 0)]) l1 = some (.lst [.int (xs.getD i 0)]) := upd_same
    generalize upd H2 l1 (.lst [.int (xs.getD i 0)]) = H3 at t1 k1
    refine ⟨by show 1 ≤ sizeLine; decide, fun l2' hl2 => ?_⟩
    have t2 : Same H3 (upd H3 l2' (.lst [.int 0])) := same_upd hl2
    have k2 : upd H3 l2' (.lst [.int 0]) l2' = some (.lst [.int 0]) := upd_same
    generalize upd H3 l2' (.lst [.int 0]) = H4 at t2 k2
    refine ⟨_, rfl, _, _, rfl, rfl, l2', _, _, rfl, rfl, k2, by omega, by omega, ?_, fun p hp => ?_⟩
    · exact sl_1000 (by simp; omega)
    rw [rep_flat, show ((b : Int) - 1).toNat = b - 1 by omega]
    have t3 : Same H4 (upd H4 p (.lst (List.replicate (b - 1) (V.int 0)))) := same_upd hp
    have k3 : upd H4 p (.lst (List.replicate (b - 1) (V.int 0))) p = some (.lst (List.replicate (b - 1) (V.int 0))) := upd_same
    generalize upd H4 p (.lst (List.replicate (b - 1) (V.int 0))) = H5 at t3 k3
    refine ⟨l1, p, _, _, rfl, rfl, (t2.trans t3) _ _ k1, k3, sl_1000 (by simp; omega), fun c hc => ?_⟩
    have t4 : Same H5 (upd H5 c (.lst ([.int (xs.getD i 0)] ++ List.replicate (b - 1) (V.int 0)))) := same_upd hc
    have k4 : upd H5 c (.lst ([.int (xs.getD i 0)] ++ List.replicate (b - 1) (V.int 0))) c = some (.lst ([.int (xs.getD i 0)] ++ List.replicate (b - 1) (V.int 0))) := upd_same
    generalize upd H5 c (.lst ([.int (xs.getD i 0)] ++ List.replicate (b - 1) (V.int 0))) = H6 at t4 k4
    have t14 := (t1.trans t2).trans (t3.trans t4)
    have ib : i * b ≤ 16 := Nat.le_trans (Nat.mul_le_mul_right b (Nat.le_of_lt hi)) ab16
    refine ⟨L, c, _, _, rfl, rfl, t14 _ _ g2, k4, sl_1000 (by simp [fl]; omega), _, rfl, same_at (s2.trans t14) hL, ?_⟩
    rw [upd_same, flat_succ, List.map_append, List.map_cons, List.map_replicate]
    rfl
  · rintro σ H2 ⟨u11, rfl, s2, g2⟩
    have fl := flat_len (a := a) b1 xs
    -- near
    refine next_asg ?_
    refine ⟨_, rfl, by show 1 ≤ sizeLine; decide, fun q1 hq1 => ?_⟩
    have t1 : Same H2 (upd H2 q1 (.tup [.int (a : Int)])) := same_upd hq1
    have k1 : TupI K (upd H2 q1 (.tup [.int (a : Int)])) (.ref q1) (r1 a) := ⟨q1, rfl, SqT.of upd_same⟩
    generalize upd H2 q1 (.tup [.int (a : Int)]) = H3 at t1 k1
    refine ⟨_, rfl, by show 1 ≤ sizeLine; decide, fun q2 hq2 => ?_⟩
    have t2 : Same H3 (upd H3 q2 (.tup [.int (a : Int)])) := same_upd hq2
    have k2 : TupI K (upd H3 q2 (.tup [.int (a : Int)])) (.ref q2) (r1 a) := ⟨q2, rfl, SqT.of upd_same⟩
    generalize upd H3 q2 (.tup [.int (a : Int)]) = H4 at t2 k2
    have s4 := s2.trans (t1.trans t2)
    refine ⟨_, rfl, _, rfl, (a : Int), rfl, ?_⟩
    have ax : a ≤ xs.length := by rw [xl]; exact Nat.le_mul_of_pos_right a b1
    refine slA_use (lo := none) (hi := some (a : Int)) (n := 0) (m := a) (s4.tup hX) rfl (by rw [List.length_map, HT.sIx_nat]; omega) fun vs H5 t5 hvs => ?_
    have ews : (xs.drop 0).take (a - 0) = xs.take a := by simp
    rw [ews] at hvs
    have wl : (xs.take a).length = a := by rw [List.length_take]; omega
    have wl' : (xs.take a).length = (placesL (r1 a)).length := by rw [wl, la]
    have wb : Abs 4 (xs.take a) := fun x hx => xb x (List.mem_of_mem_take hx)
    have S1 := rowS_rof ha wl'
    have V1 := rowS_vo ha S1 (by decide)
    refine ⟨_, _, r1 a, xs.take a, rfl, t5.tupI k2, hvs, ha, wl', fun vrow H6 t6 hrow => ?_⟩
    have t46 := t5.trans t6
    refine ⟨_, _, r1 a, _, rfl, (t2.trans t46).tupI k1, hrow, ha, S1.g ha (by decide) (by decide), fun vnear H7 t7 hnear => ?_⟩
    have s7 := s4.trans (t46.trans t7)
    have g7 := (t1.trans (t2.trans (t46.trans t7))) _ _ g2
    refine set_ok ?_
    -- told
    refine seq_asg ?_
    have fl' : (flatL a b xs).length = (placesL (r2 a b)).length := by rw [fl, l2]
    have S2 := rowS_rof h2 fl'
    have V2 := rowS_vo h2 S2 (by decide)
    have lv := S2.lev (by decide) (rofL (r2 a b) (flatL a b xs)).length
    rw [List.take_length] at lv
    have fb : Abs 4 (flatL a b xs) := fun x hx => by
      unfold flatL at hx
      obtain ⟨i, _, hx⟩ := List.mem_flatMap.mp hx
      rcases List.mem_cons.mp hx with rfl | z
      · exact xb.get i
      · rw [(List.mem_replicate.mp z).2]
        decide
    have oT : OkD 4 560 (rowD (voL (r2 a b) (rofL (r2 a b) (flatL a b xs)))) := okd_of h2 V2 (by decide) (by decide) (abs_vo h2 (by omega) S2.c (abs_rof fb)) (by decide)
    refine ⟨_, rfl, _, rfl, _, rfl, L, _, rfl, .inl ⟨SqL.of g7, fun tf htf => ?_⟩⟩
    have t8 : Same H7 (upd H7 tf (.tup ((flatL a b xs).map V.int))) := same_upd htf
    have k8 : TupI K (upd H7 tf (.tup ((flatL a b xs).map V.int))) (.ref tf) (flatL a b xs) := ⟨tf, rfl, SqT.of upd_same⟩
    generalize upd H7 tf (.tup ((flatL a b xs).map V.int)) = H8 at t8 k8
    have s8 := s7.trans t8
    refine ⟨_, _, r2 a b, _, rfl, s8.tupI hR, k8, h2, fl', fun vrow2 H9 t9 hrow2 => ?_⟩
    refine ⟨_, _, r2 a b, _, rfl, (s8.trans t9).tupI hR, hrow2, h2, S2.g h2 (by decide) (by decide), fun vtold H10 t10 htold => ?_⟩
    have s10 := s8.trans (t9.trans t10)
    have t70 := t8.trans (t9.trans t10)
    refine set_ok ?_
    -- due
    refine seq_asg ?_
    refine ⟨by decide, fun L2 hL2 => ?_⟩
    have t11 : Same H10 (upd H10 L2 (.lst [])) := same_upd hL2
    have k11 : upd H10 L2 (.lst []) L2 = some (.lst []) := upd_same
    generalize upd H10 L2 (.lst []) = H11 at t11 k11
    refine set_ok ?_
    obtain ⟨nd, un, rfl, hnd, hN⟩ := t70.row hnear
    have unl : un.length = a := by rw [hN.1, V1.c.len, la]
    have eaER : (a : Int) ∈ ER := by rw [← oa]; exact ord_er _ ha
    have eER : ordL (r2 a b) ∈ ER := ord_er _ h2
    refine ⟨_, rfl, nd, rfl, ⟨_, t11.tup hnd⟩, for_tup (K := K) (a := nd) (xs := un) (fun i σ H12 => ∃ u16, σ = [x0, some (V.int (a : Int)), some (.int (b : Int)), some vr, some (.int (ordL (r2 a b))), some (.ref xa), x6, x7, x8, x9, x10, u11, some (.ref nd), some (.ref L), some vtold, some (.ref L2), u16, none] ∧ Same H10 H12 ∧ ∃ ds, H12 L2 = some (.lst ds) ∧ Nums K H12 ds (fdue a b ((voL (r1 a) (rofL (r1 a) (xs.take a))).take i)))
      ⟨x16, rfl, t11, [], k11, by rw [List.take_zero]; exact nums_nil⟩ (fun i σ H12 _ ⟨_, _, z, _⟩ => z.tup hnd) ?_ ?_⟩
    · rintro i y σ H12 hi ⟨u16, rfl, s12, ds, h12, hN12⟩
      obtain ⟨m, hm, hum⟩ := hN.get hi
      have cm := V1.c.num m (List.mem_of_getElem? hm)
      have lm := Int.le_of_dvd (by decide) (V1.d m (List.mem_of_getElem? hm))
      have nok := numOk_of ha cm (by omega)
      rw [oa] at nok
      have il := ltL hm
      rw [V1.c.len, la] at il
      refine ⟨_, rfl, Or.inl ⟨rfl, _, SqL.of h12⟩, ?_⟩
      refine ⟨_, rfl, _, rfl, _, rfl, (a : Int), ordL (r2 a b), y, m, rfl, eaER, eER, da, s12.num hum, nok, fun v' H13 s13 hv' => ?_⟩
      refine ⟨by show 1 ≤ sizeLine; decide, fun l1 hl1 => ?_⟩
      have t14 : Same H13 (upd H13 l1 (.lst [v'])) := same_upd hl1
      have k14 : upd H13 l1 (.lst [v']) l1 = some (.lst [v']) := upd_same
      generalize upd H13 l1 (.lst [v']) = H14 at t14 k14
      refine ⟨_, rfl, l1, _, _, rfl, rfl, k14, by omega, by omega, sl_1000 (by simp; omega), fun pp hpp => ?_⟩
      rw [rep_flat, Int.toNat_natCast]
      have t15 : Same H14 (upd H14 pp (.lst (List.replicate b v'))) := same_upd hpp
      have k15 : upd H14 pp (.lst (List.replicate b v')) pp = some (.lst (List.replicate b v')) := upd_same
      generalize upd H14 pp (.lst (List.replicate b v')) = H15 at t15 k15
      have t35 := s13.trans (t14.trans t15)
      have dl := hN12.1
      rw [fdue_len, List.length_take] at dl
      have mi : min i (voL (r1 a) (rofL (r1 a) (xs.take a))).length * b ≤ 16 := Nat.le_trans (Nat.mul_le_mul_right b (show _ ≤ a by omega)) ab16
      have h15 := t35 _ _ h12
      refine ⟨L2, pp, _, _, rfl, rfl, h15, k15, sl_1000 (by rw [List.length_replicate]; omega), _, rfl, same_at (s12.trans t35) hL2, _, upd_same, ?_⟩
      rw [fdue_succ hm]
      exact nums_app (nums_at (t35.nums hN12) h15) (nums_rep (num_at ((t14.trans t15).num hv') h15) b)
    · rintro σ H12 ⟨u16, rfl, s12, ds, h12, hN12⟩
      have e1 : un.length = (voL (r1 a) (rofL (r1 a) (xs.take a))).length := by rw [hN.1]
      rw [e1, List.take_length, ← flat_vo hab wl, ← flat_take] at hN12
      have ht12 := s12.row htold
      obtain ⟨tt, _, rfl, _, _⟩ := id ht12
      refine next_ret ?_
      refine cb1_ok ?_
      refine ⟨_, rfl, ?_⟩
      refine rep_ok (row_dp ht12) (oT.le (by decide) (by decide)) ?_
      refine cb1_ok ?_
      refine cb1_ok ?_
      refine ⟨_, rfl, L2, ds, rfl, .inl ⟨SqL.of h12, fun pe hpe => ?_⟩⟩
      have t16 : Same H12 (upd H12 pe (.tup ds)) := same_upd hpe
      have r16 : RowAt K (upd H12 pe (.tup ds)) (.ref pe) (voL (r2 a b) (rofL (r2 a b) (flatL a b xs))) := ⟨pe, ds, rfl, SqT.of upd_same, t16.nums hN12⟩
      refine rep_ok (row_dp r16) (oT.le (by decide) (by decide)) ?_
      refine eq_same ?_
      exact kq _ ((s10.trans s12).trans t16)
end
end K09

/-! The law's look at two rings: a voice by the voices on the second ring. -/
namespace K09
open PySem PySem.Spec PyProof.Rows L2
theorem turn_abs {r : List Int} (h : r ∈ RR) (p : Int) : ∀ t ∈ (turnL (ordL r) p).1, -(2 ^ 64) < t ∧ t < 2 ^ 64 := by
  have q : Abs 2 (turnL (ordL r) p).1 := Abs.of fun j hj => by
    rw [(numC_turn h p).len] at hj
    rw [turn_co h p hj]
    exact T_abs h hj _
  intro t ht
  have := q t ht
  omega
theorem voL_at {r : List Int} {ns : List Num} {i : Nat} {l : List Int} (h : (placesL r)[i]? = some l) : (voL r ns)[i]? = some (voN1 r ns l) := by
  unfold voL voN1
  rw [List.getElem?_map, h]
  rfl
theorem vo1_mem {r : List Int} {ns : List Num} {l : List Int} (h : l ∈ placesL r) : voN1 r ns l ∈ voL r ns := by
  obtain ⟨i, hi⟩ := List.mem_iff_getElem?.mp h
  exact List.mem_of_getElem? (voL_at hi)
theorem bl_in : ∀ ab ∈ BL, (∀ l ∈ List.range ab.2, [(l : Int)] ∈ placesL (r1 ab.2)) ∧ ∀ k ∈ List.range ab.1, ∀ l ∈ List.range ab.2, [(k : Int), (l : Int)] ∈ placesL (r2 ab.1 ab.2) := by decide +kernel
theorem Keeps.row {d l : Addr} {K : PySem.W.Frag} {H H' : Hp} {v : V} {ns : List Num} (k : Keeps d l H H') (D : DeckAt d l H) (h : RowAt K H v ns) : RowAt K H' v ns := by
  obtain ⟨p, vs, rfl, h1, h2⟩ := h
  exact ⟨p, vs, rfl, k.sqt D h1, k.nums D h2⟩
theorem tot_snoc' {a b k : Nat} {xs : List Int} {l : List Int} {i : Nat} (hi : i < a) : totL (r2 a b) ((bsL a b xs k l).take (i + 1)) = sumN (totL (r2 a b) ((bsL a b xs k l).take i)) (bsItem a b xs k l i) 1 := by
  refine tot_snoc ?_
  unfold bsL
  rw [List.getElem?_map, List.getElem?_range hi]
  rfl
section
variable {P : Program} {w : World} {K : PySem.W.Frag} {mg : Str → Option Value} {base : Heap} {f : Addr} {fd : FuncData}
def spLB (K : PySem.W.Frag) : Sp := fun vs H Q _ => ∃ (d l : Addr) (a b : Nat), vs = [.ref d, .int (a : Int), .int (b : Int)] ∧ DeckAt d l H ∧ (a, b) ∈ BL ∧ ∀ H', Q (.bl true) H'
theorem ok_lBeside (F : FnP K "_law_is_beside_right" sLBeside f fd) (B : Bl mg) (Z : FsB P w K mg base) : FnOkG P w K mg base CX0 9 f fd ["deck", "one", "other"] (spLB K) := by
  refine okG F scLB (fun vs H Q E h => ?_) (fun cdv A outer s H vs Q E hA hr h => ?_)
  · obtain ⟨d, l, a, b, rfl, _⟩ := h
    rfl
  · obtain ⟨d, l, a, b, rfl, hD, hab, kq⟩ := h
    obtain ⟨t6, p6, k6⟩ := bpart6 (P := P) (w := w) (K := K) (mg := mg) (base := base) (f := f) (cdv := cdv) (A := A) (outer := outer) (s0 := s) (H0 := H) (E := E) Z B hA hr
    have cr : CallR (Cx.nox (cxOf CX0 P w K mg base lbN "_law_is_beside_right" (defScope sLBeside) f cdv A outer s H E)) (.builtin "repr") (rRepr K) := call_repr hA hr.units
    refine ⟨_, PSs.nox (pss_cons (ps_set (i := 3) scLB.nd rfl (Or.inl rfl) (pe_tup (pa_cons (pv 1) (pa_cons (pv 2) pa_nil))))
      (pss_cons (ps_par (i := 4) (j := 5) rfl scLB.nd rfl rfl (by decide) rfl rfl (pa_cons (pe_call Z.f_l_order.G (hr.mono (by decide)) (by rfl) Z.f_l_order.g Z.f_l_order.F.kp Z.f_l_order.b .nil pass0 (pa_cons (pv 3) pa_nil)) (pa_cons (pe_callTy call_tuple_of (by rfl) (B "tuple" (by decide +kernel)) (by decide +kernel) (pa_cons
          (pe_lc (own := [("at", 17)]) (g := gName 17) (tt := tYes) (te := tOp rMinus (tCall spDraw [] E0 (tCons (tVar 0) (tCons (tC (.int 9)) tNil))) (tC (.int 4))) rfl scLB.nd (pi_range1 (by rfl) (B "range" (by decide +kernel)) (pa_cons (pe_op op_mul (pv 1) (pv 2)) pa_nil))
            (blkOk_by (own := [("at", 17)]) (N := lbN) (sc := defScope sLBeside) (by decide +kernel)) (fun _ _ _ _ _ => pg_name (i := 17) scLB.nd rfl (Or.inl rfl)) (fun _ _ _ _ _ => pts_nil)
            (fun _ _ _ _ _ => pe_op op_sub (pe_call Z.f_l_draw.G (hr.mono (by decide)) rfl Z.f_l_draw.g Z.f_l_draw.F.kp Z.f_l_draw.b .nil pass0 (pa_cons (pv 0) (pa_cons pe_int pa_nil))) pe_int)) pa_nil)) pa_nil)) rfl)
      (pss_cons (ps_asg (pe_tup (pa_cons (pe_call Z.f_l_ring.G (hr.mono (by decide)) (by rfl) Z.f_l_ring.g Z.f_l_ring.F.kp Z.f_l_ring.b .nil pass0 (pa_cons (pv 4) pa_nil)) (pa_cons (pe_call Z.f_row_of.G hr (by rfl) Z.f_row_of.g Z.f_row_of.F.kp Z.f_row_of.b .nil pass0 (pa_cons (pv 3) (pa_cons (pv 5) pa_nil))) (pa_cons (pe_call Z.f_l_draw.G (hr.mono (by decide)) (by rfl) Z.f_l_draw.g Z.f_l_draw.F.kp Z.f_l_draw.b .nil pass0 (pa_cons (pv 0) (pa_cons (pv 1) pa_nil))) (pa_cons (pe_call Z.f_l_draw.G (hr.mono (by decide)) (by rfl) Z.f_l_draw.g Z.f_l_draw.F.kp Z.f_l_draw.b .nil pass0 (pa_cons (pv 0) (pa_cons (pv 2) pa_nil))) pa_nil)))))
          (pg_tup rfl (pgs_cons (pg_name (i := 6) scLB.nd rfl (Or.inl rfl)) (pgs_cons (pg_name (i := 7) scLB.nd rfl (Or.inl rfl)) (pgs_cons (pg_name (i := 8) scLB.nd rfl (Or.inl rfl)) (pgs_cons (pg_name (i := 9) scLB.nd rfl (Or.inl rfl)) pgs_nil))))))
      (pss_cons (ps_set (i := 10) scLB.nd rfl (Or.inl rfl) (pe_call Z.f_l_made.G (hr.mono (by decide)) (by rfl) Z.f_l_made.g Z.f_l_made.F.kp Z.f_l_made.b .nil pass0 (pa_cons (pv 6) (pa_cons (pe_tup pa_nil) (pa_cons pe_int pa_nil)))))
      (pss_cons (ps_for PassesOwn.never rfl (pi_range1 (by rfl) (B "range" (by decide +kernel)) (pa_cons (pv 1) pa_nil)) (pg_name (i := 11) scLB.nd rfl (Or.inl rfl))
        (pss_cons (ps_set (i := 12) scLB.nd rfl (Or.inl rfl) (pe_call Z.f_voice.G hr (by rfl) Z.f_voice.g Z.f_voice.F.kp Z.f_voice.b .nil pass0 (pa_cons (pe_tup (pa_cons (pv 2) pa_nil)) (pa_cons (pe_call Z.f_row_of.G hr (by rfl) Z.f_row_of.g Z.f_row_of.F.kp Z.f_row_of.b .nil pass0 (pa_cons (pe_tup (pa_cons (pv 2) pa_nil)) (pa_cons (pe_slice sl_tupA (pv 5) (po_some (pe_op op_mul (pv 11) (pv 2))) (po_some (pe_op op_mul (pe_op op_add (pv 11) pe_int) (pv 2)))) pa_nil))) (pa_cons (pe_tup (pa_cons (pv 9) pa_nil)) pa_nil)))))
        (pss_one (ps_set (i := 10) scLB.nd rfl (Or.inl rfl) (pe_call Z.f_plus.G (hr.mono (by decide)) (by rfl) Z.f_plus.g Z.f_plus.F.kp Z.f_plus.b .nil pass0 (pa_cons (pv 4) (pa_cons (pv 10) (pa_cons
            (pe_call Z.f_times.G (hr.mono (by decide)) (by rfl) Z.f_times.g Z.f_times.F.kp Z.f_times.b .nil pass0 (pa_cons (pv 4) (pa_cons (pe_call Z.f_lifted.G (hr.mono (by decide)) (by rfl) Z.f_lifted.g Z.f_lifted.F.kp Z.f_lifted.b .nil pass0 (pa_cons (pv 2) (pa_cons (pv 12) (pa_cons (pv 4) pa_nil))))
              (pa_cons (pe_call Z.f_turn.G (hr.mono (by decide)) (by rfl) Z.f_turn.g Z.f_turn.F.kp Z.f_turn.b .nil pass0 (pa_cons (pv 4) (pa_cons (pe_op op_mul (pe_op op_mul (pv 11) (pv 8)) (pe_op op_fdiv (pv 4) (pv 1))) pa_nil))) pa_nil)))) pa_nil))))))))
      (pss_cons (ps_if (PW.pt (pw_or (pt_cmpR op_ne (pe_callB cr (by rfl) (B "repr" (by decide +kernel)) (by decide +kernel) (pa_cons (pe_call Z.f_voice.G hr (by rfl) Z.f_voice.g Z.f_voice.F.kp Z.f_voice.b .nil pass0 (pa_cons (pv 3) (pa_cons (pv 7) (pa_cons (pe_tup (pa_cons (pv 8) (pa_cons (pv 9) pa_nil))) pa_nil)))) pa_nil)) (pe_callB cr (by rfl) (B "repr" (by decide +kernel)) (by decide +kernel) (pa_cons (pv 10) pa_nil)) (nomark _))
          (pw_or1 (pt_cmpR op_ne (pe_callB cr (by rfl) (B "repr" (by decide +kernel)) (by decide +kernel) (pa_cons (pe_callK0 Z.f_voice.G hr (by rfl) Z.f_voice.g Z.f_voice.F.kp (kb_voice Z.f_voice.F) pass0 (pk_cons (pe_tup (pa_cons (pv 8) (pa_cons (pv 9) pa_nil))) (pk_cons (pv 7) (pk_cons (pv 3) pk_nil)))) pa_nil)) (pe_callB cr (by rfl) (B "repr" (by decide +kernel)) (by decide +kernel) (pa_cons (pv 10) pa_nil)) (nomark _))))) (pss_one (ps_ret pe_bl)) pss_nil) p6)))))), ?_⟩
    obtain ⟨h2, ha, hb, oa, ob, da, db, l2, la, lb, a1, b1⟩ := bl_ok _ hab
    dsimp only at h2 ha hb oa ob da db l2 la lb a1 b1
    have l16 := (pl_pos _ h2).2
    have a16 : a ≤ 16 := by have := (pl_pos _ ha).2; omega
    have b16 : b ≤ 16 := by have := (pl_pos _ hb).2; omega
    have ab16 : a * b ≤ 16 := by omega
    have he := er_in _ h2
    have eb := er_bd _ he
    -- rings
    refine ⟨_, rfl, _, rfl, by show 2 ≤ sizeLine; decide, fun q0 hq0 => ?_⟩
    have s1 : Same H (upd H q0 (.tup [.int (a : Int), .int (b : Int)])) := same_upd hq0
    have k1 : TupI K (upd H q0 (.tup [.int (a : Int), .int (b : Int)])) (.ref q0) (r2 a b) := ⟨q0, rfl, SqT.of upd_same⟩
    generalize upd H q0 (.tup [.int (a : Int), .int (b : Int)]) = H1 at s1 k1
    have D1 := s1.deck hD
    -- e, whole
    refine ⟨_, rfl, .ref q0, r2 a b, rfl, k1, h2, fun H2 s2 => ?_⟩
    have D2 := s2.deck D1
    have k2 := s2.tupI k1
    have ecast : (a : Int) * (b : Int) = ((a * b : Nat) : Int) := by push_cast; rfl
    refine ⟨_, rfl, _, rfl, _, _, rfl, rfl, Or.inl ⟨by omega, by omega⟩, _, rfl, by omega, by omega, fun D hDn => ?_⟩
    rw [ecast, Int.toNat_natCast]
    obtain ⟨⟨mm, jj, hd1⟩, ns1, hl1⟩ := deck_ref D2
    have Dd : D ≠ d := (ne_of_none hd1 hDn).symm
    have Dl : D ≠ l := (ne_of_none hl1 hDn).symm
    refine lc_range (lo := 0) (n := a * b) (fun i H3 => DeckAt d l H3 ∧ Keeps d l H2 H3 ∧ ∃ xs : List Int, H3 D = some (.lst (xs.map V.int)) ∧ xs.length = i ∧ Abs 4 xs) ⟨D2.new hDn, .new hDn, [], upd_same, rfl, fun x hx => absurd hx (by simp)⟩ ?_ ?_
    · rintro i H3 hi ⟨D3, k3, xs, h3, xl, xb⟩
      refine ⟨rfl, _, rfl, d, l, 9, rfl, D3, by decide, by decide, fun x H4 x0 x1 D4 k4 => ?_⟩
      refine ⟨_, _, rfl, rfl, _, k4 _ _ h3 Dd Dl, sl_lt (by rw [List.length_map]; omega), D4.off Dd Dl, fun c o ec nc nl => ?_, xs ++ [x - 4], by rw [upd_same, List.map_append]; rfl, by rw [List.length_append, xl]; rfl, fun y hy => ?_⟩
      · rw [upd_ne (ne_of_none ec hDn)]
        exact (k3.trans k4) c o ec nc nl
      · rcases List.mem_append.mp hy with z | z
        · exact xb y z
        · rw [List.mem_singleton.mp z]
          omega
    · rintro H3 ⟨D3, k3, xs, h3, xl, xb⟩
      have k1' := k3.tupI D2 k2
      refine ⟨D, _, rfl, .inl ⟨SqL.of h3, fun xa hxa => ⟨_, _, rfl, ?_⟩⟩⟩
      have t4 : Same H3 (upd H3 xa (.tup (xs.map V.int))) := same_upd hxa
      have hX : SqT K (upd H3 xa (.tup (xs.map V.int))) xa (xs.map V.int) := SqT.of upd_same
      generalize upd H3 xa (.tup (xs.map V.int)) = H4 at t4 hX
      have D4 := t4.deck D3
      have hR4 := t4.tupI k1'
      clear hd1 hl1 hDn Dd Dl h3
      have S2 : RowS (r2 a b) 6 (rofL (r2 a b) xs) := rowS_rof h2 (by rw [xl, l2])
      have g2 := S2.g h2 (by decide) (by decide)
      have V2 := rowS_vo h2 S2 (by decide)
      have lv := S2.lev (by decide) (rofL (r2 a b) xs).length
      rw [List.take_length] at lv
      have aV := abs_vo h2 (by omega) S2.c (abs_rof xb)
      -- ring, row, k, l
      refine ⟨_, rfl, ordL (r2 a b), rfl, he, fun rg H5 s5 nrg hrg => ?_⟩
      have D5 := s5.deck D4
      refine ⟨_, rfl, _, rfl, .ref q0, .ref xa, r2 a b, xs, rfl, s5.tupI hR4, ⟨xa, rfl, s5.tup hX⟩, h2, by rw [xl, l2], fun vrow H6 s6 hrow => ?_⟩
      have D6 := s6.deck D5
      have hrg6 := s6 _ _ hrg
      obtain ⟨⟨m4, j4, hd4⟩, ns4, hl4⟩ := deck_ref D4
      have nl5 : rg ≠ l := (ne_of_none hl4 nrg).symm
      have nd5 : rg ≠ d := (ne_of_none hd4 nrg).symm
      clear hd4 hl4
      refine ⟨_, rfl, _, rfl, d, l, (a : Int), rfl, D6, by omega, by omega, fun kk H7 y0 y1 D7 k7 => ?_⟩
      refine ⟨_, rfl, _, rfl, d, l, (b : Int), rfl, D7, by omega, by omega, fun ll H8 z0 z1 D8 k8 => ?_⟩
      obtain ⟨kn, rfl⟩ := Int.eq_ofNat_of_zero_le y0
      obtain ⟨ln, rfl⟩ := Int.eq_ofNat_of_zero_le z0
      have hk : kn < a := by omega
      have hln : ln < b := by omega
      have k68 := k7.trans k8
      have hrg8 : H8 rg = some (.lst ((polyL (ordL (r2 a b))).map V.int)) := k68 _ _ hrg6 nd5 nl5
      have hrow8 := k68.row D6 hrow
      have hR8 := k68.tupI D6 ((s5.trans s6).tupI hR4)
      have hX8 := k68.sqt D6 ((s5.trans s6).tup hX)
      refine ⟨by show 4 ≤ sizeLine; decide, fun pt hpt => ?_⟩
      have t9 : Same H8 (upd H8 pt (.tup [.ref rg, vrow, .int (kn : Int), .int (ln : Int)])) := same_upd hpt
      refine ⟨pt, _, rfl, SqT.of upd_same, rfl, _, _, rfl, _, _, rfl, _, _, rfl, _, _, rfl, rfl, ?_⟩
      generalize upd H8 pt (.tup [.ref rg, vrow, .int (kn : Int), .int (ln : Int)]) = H9 at t9
      have hrg9 := t9 _ _ hrg8
      have hrow9 := t9.row hrow8
      have hR9 := t9.tupI hR8
      have hX9 := t9.tup hX8
      clear hrg8 hrow8 hR8 hX8 k68
      -- found
      refine ⟨_, rfl, by decide, fun z hz => ?_⟩
      have tz : Same H9 (upd H9 z (.tup [])) := same_upd hz
      refine ⟨rg, z, [], ordL (r2 a b), 1, rfl, he, SqL.of (tz _ _ hrg9), .inr (SqT.of upd_same), by decide, by decide, by decide, fun vt H10 s10 hvt => ?_⟩
      rw [red_nil (by have := poly_len h2; omega), low_one] at hvt
      have t10 := tz.trans s10
      have hrow10 := t10.row hrow9
      have hR10 := t10.tupI hR9
      have hX10 := t10.tup hX9
      have R := bs_reps hab (xs := xs) xl hk hln
      have lenb : (bsL a b xs kn [(ln : Int)]).length = a := by unfold bsL; rw [List.length_map, List.length_range]
      refine set_ok ?_
      refine ⟨_, rfl, _, rfl, by omega, by omega, ?_⟩
      rw [Int.toNat_natCast]
      refine for_range (lo := 0) (n := a) (fun i σ H11 => ∃ vf u11 u12, σ = [some (V.ref d), some (.int (a : Int)), some (.int (b : Int)), some (.ref q0), some (.int (ordL (r2 a b))), some (.ref xa), some (.ref rg), some vrow, some (.int (kn : Int)), some (.int (ln : Int)), some vf, u11, u12, none, none, none, none, none] ∧ Same H10 H11 ∧ NumAt K H11 vf (totL (r2 a b) ((bsL a b xs kn [(ln : Int)]).take i))) ⟨vt, none, none, rfl, Same.refl _, hvt⟩ ?_ ?_
      · rintro i σ H11 hi ⟨vf, u11, u12, rfl, s11, hvf⟩
        have e0 : (0 : Int) + (i : Int) = (i : Int) := Int.zero_add _
        rw [e0]
        refine ⟨_, rfl, by show 1 ≤ sizeLine; decide, fun q1 hq1 => ?_⟩
        have t1 : Same H11 (upd H11 q1 (.tup [.int (b : Int)])) := same_upd hq1
        have m1 : TupI K (upd H11 q1 (.tup [.int (b : Int)])) (.ref q1) (r1 b) := ⟨q1, rfl, SqT.of upd_same⟩
        generalize upd H11 q1 (.tup [.int (b : Int)]) = H12 at t1 m1
        refine ⟨_, rfl, by show 1 ≤ sizeLine; decide, fun q2 hq2 => ?_⟩
        have t2 : Same H12 (upd H12 q2 (.tup [.int (b : Int)])) := same_upd hq2
        have m2 : TupI K (upd H12 q2 (.tup [.int (b : Int)])) (.ref q2) (r1 b) := ⟨q2, rfl, SqT.of upd_same⟩
        generalize upd H12 q2 (.tup [.int (b : Int)]) = H13 at t2 m2
        have t12 := t1.trans t2
        have ib1 : (i + 1) * b ≤ a * b := Nat.mul_le_mul_right b hi
        have ib0 : i * b + b = (i + 1) * b := by rw [Nat.add_mul, Nat.one_mul]
        have c1 : (i : Int) * (b : Int) = ((i * b : Nat) : Int) := by push_cast; rfl
        have c2 : ((i : Int) + 1) * (b : Int) = (((i + 1) * b : Nat) : Int) := by push_cast; rfl
        refine ⟨_, rfl, _, rfl, _, rfl, _, _, rfl, rfl, Or.inl ⟨by omega, by omega⟩, (i : Int) * (b : Int), rfl, _, rfl, _, _, rfl, rfl, _, rfl, _, _, rfl, rfl, Or.inl ⟨by omega, by omega⟩, ((i : Int) + 1) * (b : Int), rfl, ?_⟩
        refine slA_use (lo := some ((i : Int) * (b : Int))) (hi := some (((i : Int) + 1) * (b : Int))) (n := i * b) (m := (i + 1) * b) (t12.tup (s11.tup hX10)) (by rw [c1, List.length_map, HT.sIx_nat, xl]; omega) (by rw [c2, List.length_map, HT.sIx_nat, xl]; omega) fun vs H14 t3 hvs => ?_
        rw [show (i + 1) * b - i * b = b by omega] at hvs
        have sl := slice_len (xs := xs) hi xl
        have sl' : ((xs.drop (i * b)).take b).length = (placesL (r1 b)).length := by rw [sl, lb]
        have S1 := rowS_rof hb sl'
        have V1 := rowS_vo hb S1 (by decide)
        refine ⟨_, _, r1 b, _, rfl, t3.tupI m2, hvs, hb, sl', fun vr1 H15 t4 hr1 => ?_⟩
        refine ⟨_, rfl, by show 1 ≤ sizeLine; decide, fun q3 hq3 => ?_⟩
        have t5 : Same H15 (upd H15 q3 (.tup [.int (ln : Int)])) := same_upd hq3
        have m3 : TupI K (upd H15 q3 (.tup [.int (ln : Int)])) (.ref q3) [(ln : Int)] := ⟨q3, rfl, SqT.of upd_same⟩
        generalize upd H15 q3 (.tup [.int (ln : Int)]) = H16 at t5 m3
        have lin := (bl_in _ hab).1 ln (List.mem_range.mpr hln)
        refine ⟨_, _, _, r1 b, _, [(ln : Int)], rfl, (t2.trans (t3.trans (t4.trans t5))).tupI m1, t5.row hr1, m3, hb, S1.g hb (by decide) (by decide), lin, fun vn H17 t6 hvn => ?_⟩
        have t17 := t12.trans (t3.trans (t4.trans (t5.trans t6)))
        have mn := vo1_mem (ns := rofL (r1 b) ((xs.drop (i * b)).take b)) lin
        have cn := V1.c.num _ mn
        have dn := V1.d _ mn
        have nle := Int.le_of_dvd (by decide) dn
        have okn := numOk_of hb cn (by omega)
        rw [ob] at okn
        have bER : (b : Int) ∈ ER := by rw [← ob]; exact ord_er _ hb
        refine set_ok ?_
        refine ⟨_, rfl, _, rfl, _, rfl, _, rfl, _, rfl, _, rfl, (b : Int), ordL (r2 a b), vn, _, rfl, bER, ord_er _ h2, db, hvn, okn, fun vl H18 t7 hvl => ?_⟩
        have ea : 0 ≤ ordL (r2 a b) / (a : Int) ∧ ordL (r2 a b) / (a : Int) ≤ 60 := by
          have := Int.ediv_nonneg (a := ordL (r2 a b)) (b := (a : Int)) (by omega) (by omega)
          have := Int.ediv_le_self (a : Int) (show 0 ≤ ordL (r2 a b) by omega)
          omega
        refine ⟨_, rfl, _, rfl, _, rfl, _, _, rfl, rfl, Or.inl ⟨by omega, by omega⟩, _, rfl, _, rfl, _, _, rfl, rfl, ⟨by omega, by omega⟩, _, _, rfl, rfl, Or.inr ⟨by omega, by omega⟩, ordL (r2 a b), _, rfl, ord_er _ h2, fun vtn H19 t8 hvtn => ?_⟩
        have cl : NumC (dg (r2 a b)) (liftL (b : Int) (ordL (r2 a b)) (bsNear a b xs [(ln : Int)] i)) := by
          have q := numC_lift (r := r2 a b) (q := r1 b) h2 cn
          rw [ob] at q
          exact q
        have dl : (liftL (b : Int) (ordL (r2 a b)) (bsNear a b xs [(ln : Int)] i)).2 ∣ 6 := Int.dvd_trans (low_dvd _ _ cn.pos) dn
        have lle := Int.le_of_dvd (by decide) dl
        refine ⟨ordL (r2 a b), vl, vtn, liftL (b : Int) (ordL (r2 a b)) (bsNear a b xs [(ln : Int)] i), _, rfl, ord_er _ h2, t8.num hvl, hvtn, numOk_of h2 cl (by omega), numOk_of h2 (numC_turn h2 _) (by show (1 : Int) ≤ 1000; decide), .inr (turn_abs h2 _), fun vp H20 t9 hvp => ?_⟩
        have ci := numC_prod h2 cl (numC_turn h2 ((i : Int) * (kn : Int) * (ordL (r2 a b) / (a : Int))))
        have di : (bsItem a b xs kn [(ln : Int)] i).2 ∣ 6 := by
          refine Int.dvd_trans (low_dvd _ _ (mul1 cl.pos (numC_turn h2 _).pos)) ?_
          have e1 : (turnL (ordL (r2 a b)) ((i : Int) * (kn : Int) * (ordL (r2 a b) / (a : Int)))).2 = 1 := rfl
          rw [e1, Int.mul_one]
          exact dl
        have ile := Int.le_of_dvd (by decide) di
        have cf := numC_tot R.c i
        have fle := Int.le_of_dvd (by decide) (reps_dvd R (Int.le_refl 1) (i := i) (by rw [lenb]; omega))
        have t20 := t17.trans (t7.trans (t8.trans t9))
        refine ⟨ordL (r2 a b), vf, vp, _, bsItem a b xs kn [(ln : Int)] i, rfl, ord_er _ h2, t20.num hvf, hvp, numOk_of h2 cf (by omega), numOk_of h2 ci (by omega), fun vf' H21 t10' hvf' => ?_⟩
        refine set_ok ?_
        refine ⟨vf', _, _, rfl, s11.trans (t20.trans t10'), ?_⟩
        rw [tot_snoc' hi]
        exact hvf'
      · rintro σ H11 ⟨vf, u11, u12, rfl, s11, hvf⟩
        have et := List.take_length (l := bsL a b xs kn [(ln : Int)])
        rw [lenb] at et
        rw [et, ← beside hab xl hk hln] at hvf
        change NumAt K H11 vf (voN1 (r2 a b) (rofL (r2 a b) xs) [(kn : Int), (ln : Int)]) at hvf
        have kin := (bl_in _ hab).2 kn (List.mem_range.mpr hk) ln (List.mem_range.mpr hln)
        have mem := vo1_mem (ns := rofL (r2 a b) xs) kin
        have okN : OkD 40 50000 (numD (voN1 (r2 a b) (rofL (r2 a b) xs) [(kn : Int), (ln : Int)])) := by
          have q := bd_of h2 V2 (by decide) (by decide) aV (by decide) _ mem
          exact (okd_num q.1 q.2.1 q.2.2).le (by decide) (by decide)
        have hR11 := s11.tupI hR10
        have hrow11 := s11.row hrow10
        have hX11 := s11.tup hX10
        refine next_ifS ?_
        refine cb1_ok ?_
        refine ⟨_, rfl, _, rfl, _, rfl, _, rfl, by show 2 ≤ sizeLine; decide, fun q1 hq1 => ?_⟩
        have t1 : Same H11 (upd H11 q1 (.tup [.int (kn : Int), .int (ln : Int)])) := same_upd hq1
        have m1 : TupI K (upd H11 q1 (.tup [.int (kn : Int), .int (ln : Int)])) (.ref q1) [(kn : Int), (ln : Int)] := ⟨q1, rfl, SqT.of upd_same⟩
        generalize upd H11 q1 (.tup [.int (kn : Int), .int (ln : Int)]) = H12 at t1 m1
        refine ⟨_, _, _, r2 a b, _, [(kn : Int), (ln : Int)], rfl, t1.tupI hR11, t1.row hrow11, m1, h2, g2, kin, fun v1 H13 t2 hv1 => ?_⟩
        obtain ⟨a1', _, rfl, _, _⟩ := id hv1
        refine rep_ok (num_dp hv1) okN ?_
        have t12 := t1.trans t2
        have hvf13 := t12.num hvf
        obtain ⟨a2', _, rfl, _, _⟩ := id hvf
        refine cb1_ok ?_
        refine ⟨_, rfl, ?_⟩
        refine rep_ok (num_dp hvf13) okN ?_
        refine ne_same ?_
        refine ite2 (fun c => absurd c (by decide)) fun _ => ?_
        refine cb1_ok ?_
        refine ⟨_, rfl, _, rfl, by show 2 ≤ sizeLine; decide, fun q2 hq2 => ?_⟩
        have t3 : Same H13 (upd H13 q2 (.tup [.int (kn : Int), .int (ln : Int)])) := same_upd hq2
        have m2 : TupI K (upd H13 q2 (.tup [.int (kn : Int), .int (ln : Int)])) (.ref q2) [(kn : Int), (ln : Int)] := ⟨q2, rfl, SqT.of upd_same⟩
        generalize upd H13 q2 (.tup [.int (kn : Int), .int (ln : Int)]) = H14 at t3 m2
        have t13 := t12.trans t3
        refine ⟨_, rfl, _, rfl, _, _, _, r2 a b, _, [(kn : Int), (ln : Int)], rfl, t13.tupI hR11, t13.row hrow11, m2, h2, g2, kin, fun v2 H15 t4 hv2 => ?_⟩
        obtain ⟨a3', _, rfl, _, _⟩ := id hv2
        refine rep_ok (num_dp hv2) okN ?_
        have t14 := t13.trans t4
        refine cb1_ok ?_
        refine ⟨_, rfl, ?_⟩
        refine rep_ok (num_dp (t14.num hvf)) okN ?_
        refine ne_same ?_
        refine ite2 (fun c => absurd c (by decide)) fun _ => ?_
        exact k6 _ a b (.ref q0) xa xs _ _ _ _ _ _ _ _ _ _ _ _ H15 hab (t14.tupI hR11) (t14.tup hX11) xl xb fun H' _ => kq H'
end
end K09

/-! What the law's def needs. -/
namespace K09
open PySem PySem.Spec PyProof.Rows L2
structure Fun1G (P : Program) (w : World) (K : PySem.W.Frag) (mg : Str → Option Value) (base : Heap) (x : Str) (st : Stmt) (n : Nat) (ps : List Str) (sp : Sp) where
  a : Addr
  d : FuncData
  F : FnP K x st a d
  g : mg x = some (.ref a)
  G : FnOkG P w K mg base CX0 n a d ps sp
  b : L2.Binds K d ps []
structure Fs (P : Program) (w : World) (K : PySem.W.Frag) (mg : Str → Option Value) (base : Heap) where
  f_voices : Fun1 P w K mg base "voices" sVoices 8 ["rings", "row"] (spVoices K)
  f_row_of : Fun1 P w K mg base "row_of" sRowOf 8 ["rings", "whole"] (spRO K)
  f_sounding : Fun1 P w K mg base "sounding" sSounding 8 ["rings", "row"] (spSnd K)
  f_moved : Fun1 P w K mg base "moved" sMoved 8 ["rings", "row", "place"] (spMoved K)
  f_subgroup : Fun1 P w K mg base "subgroup" sSubgroup 7 ["rings", "places"] (spSub K)
  f_pairing : Fun1 P w K mg base "pairing" sPairing 6 ["rings", "place", "label"] (spPairing K)
  f_times : Fun1 P w K mg base "times" sTimes 6 ["order", "one", "other"] (spTimes K)
  f_turn : Fun1 P w K mg base "turn" sTurn 4 ["order", "power"] (spTurn K)
  f_l_deck : Fun1 P w K mg base "_law_deck" sDeck 1 ["script"] (spDeck K)
  f_l_rings : Fun1 P w K mg base "_law_rings" sLRings 3 ["deck", "most"] (spLRings K)
  f_l_pick : Fun1 P w K mg base "_law_pick" sPick 2 ["deck", "some"] (spPick K)
  f_l_places : Fun1 P w K mg base "_law_places" sLPlaces 1 ["rings"] (spLPl K)
  f_l_draw : Fun1 P w K mg base "_law_draw" sDraw 1 ["deck", "many"] spDraw
  f_l_order : Fun1 P w K mg base "_law_order" sLOrder 2 ["rings"] (spLOrder K)
  f_l_ring : Fun1 P w K mg base "_law_ring" sLRing 1 ["e"] (spLRing K)
  f_l_made : Fun1 P w K mg base "_law_made" sLMade 2 ["ring", "sums", "bottom"] (spLMade K)
  f_l_row : Fun1 P w K mg base "_law_row" sLRow 4 ["deck", "ring", "n"] (spLRow K)
  f_l_loud : Fun1G P w K mg base "_law_is_loudness_right" sLLoud 8 ["e", "n", "ring", "row", "told"] (spLL K)
  f_l_beside : Fun1G P w K mg base "_law_is_beside_right" sLBeside 9 ["deck", "one", "other"] (spLB K)
/-- places in a list, off the deck -/
def PlsAt (K : PySem.W.Frag) (l : Addr) (H : Hp) (a : Addr) (r : List Int) : Prop := PlL K H a (placesL r) ∧ a ≠ l
theorem Keeps.pls {d l a : Addr} {K : PySem.W.Frag} {H H' : Hp} {r : List Int} (k : Keeps d l H H') (D : DeckAt d l H) (h : PlsAt K l H a r) : PlsAt K l H' a r := by
  obtain ⟨⟨ks, h3, h4, h5⟩, hl⟩ := h
  obtain ⟨⟨m, j, h1⟩, xs, h2⟩ := deck_ref D
  exact ⟨⟨ks, k _ _ h3 (ne_of h3 h1 (by intro z; cases z)) hl, h4, ⟨fun p hp => k _ _ (h5.out p hp) (ne_of (h5.out p hp) h1 (by intro z; cases z)) (fun e => by have q := h5.out p hp; rw [e, h2] at q; cases q)⟩⟩, hl⟩
theorem _root_.L2.Same.pls {l a : Addr} {K : PySem.W.Frag} {H H' : Hp} {r : List Int} (s : Same H H') (h : PlsAt K l H a r) : PlsAt K l H' a r := ⟨s.pll h.1, h.2⟩
/-- what the law has at hand all the way -/
structure Hand (K : PySem.W.Frag) (d l : Addr) (vr : V) (pl0 rg : Addr) (r : List Int) (H : Hp) : Prop where
  D : DeckAt d l H
  R : TupI K H vr r
  P : PlsAt K l H pl0 r
  G : RingAt l H rg (ordL r)
theorem Hand.same {K : PySem.W.Frag} {d l : Addr} {vr : V} {pl0 rg : Addr} {r : List Int} {H H' : Hp} (h : Hand K d l vr pl0 rg r H) (s : Same H H') : Hand K d l vr pl0 rg r H' := ⟨s.deck h.D, s.tupI h.R, s.pls h.P, s.ring h.G⟩
theorem Hand.keeps {K : PySem.W.Frag} {d l : Addr} {vr : V} {pl0 rg : Addr} {r : List Int} {H H' : Hp} (h : Hand K d l vr pl0 rg r H) (D' : DeckAt d l H') (k : Keeps d l H H') : Hand K d l vr pl0 rg r H' := ⟨D', k.tupI h.D h.R, k.pls h.D h.P, k.ring h.D h.G⟩
theorem Keeps.plt {d l : Addr} {K : PySem.W.Frag} {H H' : Hp} {v : V} {ps : List (List Int)} (k : Keeps d l H H') (D : DeckAt d l H) (h : PlT K H v ps) : PlT K H' v ps := by
  obtain ⟨p, ks, rfl, h1, h2, h3⟩ := h
  exact ⟨p, ks, rfl, k.sqt D h1, h2, fun q hq => k.sqt D (h3 q hq)⟩
abbrev lawB : List Stmt := defBody sLaw
abbrev lawN : List Str := ["script", "deck", "rings", "places", "e", "ring", "n", "row", "group", "on", "across", "due", "step", "one", "other", "at", "x", "k", "sound"]
theorem lawB_len : lawB.length = 16 := by kernel_rfl
theorem scLaw : FnScope lawN ["script"] (defScope sLaw) := ⟨rfl, rfl, rfl, by decide +kernel, rfl, by decide +kernel, by decide +kernel⟩
/-! ### the labels across a subgroup -/
theorem fil_map (f : List Int → Num) : ∀ l : List (List Int), ((l.zip (l.map f)).filterMap fun pn => if someN pn.2.1 = true then some pn.1 else none) = l.filter fun x => someN (f x).1
  | [] => rfl
  | x :: l => by
    rw [List.map_cons, List.zip_cons_cons, List.filterMap_cons]
    have ih := fil_map f l
    by_cases c : someN (f x).1 = true
    · simp only [c, if_true, List.filter_cons]
      rw [ih]
    · simp only [c, List.filter_cons]
      exact ih
theorem some_wh {r : List Int} (x : Int) : someN (whN r x).1 = decide (x ≠ 0) := by
  unfold someN whN
  rw [List.any_cons]
  have e : (List.replicate ((polyL (ordL r)).length - 2) (0 : Int)).any (fun n => n != 0) = false := by
    rw [List.any_eq_false]
    intro y hy
    rw [(List.mem_replicate.mp hy).2]
    simp
  rw [e, Bool.or_false]
  by_cases c : x = 0 <;> simp [c]
theorem fil_due {r : List Int} {G : List (List Int)} (c : ClG r G) : filL r (sdueL r G) (sdueL r G).length = acrL r G := by
  have ne : ((G.length : Nat) : Int) ≠ 0 := by
    have : 0 < G.length := List.length_pos_of_mem c.zero
    omega
  unfold filL
  have e : ((placesL r).zip (sdueL r G)).length = (sdueL r G).length := by
    unfold sdueL
    rw [List.length_zip, List.length_map]
    omega
  rw [← e, List.take_length]
  unfold sdueL
  rw [fil_map]
  unfold acrL
  refine List.filter_congr fun l _ => ?_
  rw [some_wh]
  by_cases z : acrB r G l = true
  · rw [if_pos z, z]
    exact decide_eq_true ne
  · rw [if_neg z]
    have : acrB r G l = false := by simpa using z
    rw [this]
    rfl
theorem rowS_due {r : List Int} (h : r ∈ RR) (G : List (List Int)) : RowS r 6 (sdueL r G) := by
  refine ⟨⟨by unfold sdueL; rw [List.length_map], fun n hn => ?_⟩, fun n hn => ?_⟩
  · obtain ⟨l, _, rfl⟩ := List.mem_map.mp hn
    exact numC_wh h _
  · obtain ⟨l, _, rfl⟩ := List.mem_map.mp hn
    exact ⟨6, rfl⟩
theorem abs_due {r : List Int} {G : List (List Int)} (hG : G.length ≤ 16) : AbsR 16 (sdueL r G) := fun n hn => by
  obtain ⟨l, _, rfl⟩ := List.mem_map.mp hn
  intro t ht
  rcases List.mem_cons.mp ht with rfl | z
  · split <;> omega
  · rw [(List.mem_replicate.mp z).2]
    simp
end K09

/-! The law: the voices of a moved subgroup; two rings. -/
namespace K09
open PySem PySem.Spec PyProof.Rows L2
theorem turned_at {r s : List Int} {vs : List Num} {i : Nat} {x : List Int} {a : Num} (hx : (placesL r)[i]? = some x) (ha : vs[i]? = some a) : (turnedV r s vs)[i]? = some (prodL (ordL r) a (turnL (ordL r) (pairL r (ordL r) s x))) := by
  unfold turnedV
  rw [List.getElem?_map, List.getElem?_range (ltL hx)]
  show some (prodL (ordL r) (vs.getD i ([], 1)) (turnL (ordL r) (pairL r (ordL r) s ((placesL r).getD i [])))) = _
  rw [List.getD_eq_getElem?_getD, ha, List.getD_eq_getElem?_getD, hx]
  rfl
def blL : List (List Int) := [[2, 2], [2, 3], [3, 2], [2, 4], [4, 2], [3, 3], [2, 5], [3, 4], [2, 6], [2, 8]]
theorem blL_ok : ∀ q ∈ blL, ∃ ab ∈ BL, q = [(ab.1 : Int), (ab.2 : Int)] := by decide +kernel
theorem tups10 : (tCons (tTup (tCons (tC (.int 2)) (tCons (tC (.int 2)) tNil))) (tCons (tTup (tCons (tC (.int 2)) (tCons (tC (.int 3)) tNil))) (tCons (tTup (tCons (tC (.int 3)) (tCons (tC (.int 2)) tNil))) (tCons (tTup (tCons (tC (.int 2)) (tCons (tC (.int 4)) tNil))) (tCons (tTup (tCons (tC (.int 4)) (tCons (tC (.int 2)) tNil))) (tCons (tTup (tCons (tC (.int 3)) (tCons (tC (.int 3)) tNil))) (tCons (tTup (tCons (tC (.int 2)) (tCons (tC (.int 5)) tNil))) (tCons (tTup (tCons (tC (.int 3)) (tCons (tC (.int 4)) tNil))) (tCons (tTup (tCons (tC (.int 2)) (tCons (tC (.int 6)) tNil))) (tCons (tTup (tCons (tC (.int 2)) (tCons (tC (.int 8)) tNil))) tNil)))))))))) = tTups blL := rfl
section
variable {P : Program} {w : World} {K : PySem.W.Frag} {mg : Str → Option Value} {base : Heap} {f : Addr} {cdv : Value} {A : Around} {outer : List Env} {s0 : Shared} {H0 : Hp} {E : XK}
theorem part11 (Z : Fs P w K mg base) (B : Bl mg) (hA : A.guards = some []) (hr : Room 9 (A.deeper (envOfC "law" (defScope sLaw) s0.heap.objs.size f cdv))) :
    ∃ t, PSs (cxOf CX0 P w K mg base lawN "law" (defScope sLaw) f cdv A outer s0 H0 E).nox (lawB.drop 11) t ∧ ∀ (k : Ends) (a d l : Addr) (vr von vdue : V) (pl0 rg : Addr) (r : List Int) (G : List (List Int)) (x6 x7 x8 x10 x12 x13 x14 : Option V) (H : Hp),
      Hand K d l vr pl0 rg r H → RowAt K H von (rofL r (indL r G)) → RowAt K H vdue (sdueL r G) → r ∈ RR → ClG r G → (∀ H', k.rt (.bl true) H') →
      t k [some (.ref a), some (.ref d), some vr, some (.ref pl0), some (.int (ordL r)), some (.ref rg), x6, x7, x8, some von, x10, some vdue, x12, x13, x14, none, none, none, none] H := by
  have hu64 := hr.units
  have cr : CallR (Cx.nox (cxOf CX0 P w K mg base lawN "law" (defScope sLaw) f cdv A outer s0 H0 E)) (.builtin "repr") (rRepr K) := call_repr hA hr.units
  refine ⟨_, (pss_cons (ps_set (i := 12) scLaw.nd rfl (Or.inr rfl) (pe_call Z.f_l_pick.G (hr.mono (by decide)) (by rfl) Z.f_l_pick.g Z.f_l_pick.F.kp Z.f_l_pick.b .nil pass0 (pa_cons (pv 1) (pa_cons (pv 3) pa_nil))))
      (pss_cons (ps_set (i := 11) scLaw.nd rfl (Or.inl rfl) (pe_callTy call_tuple_of (by rfl) (B "tuple" (by decide +kernel)) (by decide +kernel) (pa_cons (pe_lc (own := [("k", 17), ("sound", 18)]) (g := gTup K 2 (gCons (gName 17) (gCons (gName 18) gNil))) (tt := tYes) (te := tCall (spTimes K) [] E0 (tCons (tVar 4) (tCons (tVar 18) (tCons (tCall (spTurn K) [] E0 (tCons (tVar 4) (tCons (tCall (spPairing K) [] E0 (tCons (tVar 2) (tCons (tVar 12) (tCons (tVar 17) tNil)))) tNil))) tNil)))) rfl scLaw.nd (pi_zipM (by rfl) (B "zip" (by decide +kernel)) (pa_cons (pv 3) (pa_cons (pv 11) pa_nil)))
          (blkOk_by (own := [("k", 17), ("sound", 18)]) (N := lawN) (sc := defScope sLaw) (by decide +kernel)) (fun _ _ _ _ _ => pg_tup rfl (pgs_cons (pg_name (i := 17) scLaw.nd rfl (Or.inl rfl)) (pgs_cons (pg_name (i := 18) scLaw.nd rfl (Or.inl rfl)) pgs_nil))) (fun _ _ _ _ _ => pts_nil)
          (fun _ _ _ _ _ => (pe_call Z.f_times.G (hr.mono (by decide)) (by rfl) Z.f_times.g Z.f_times.F.kp Z.f_times.b .nil pass0 (pa_cons (pv 4) (pa_cons (pv 18) (pa_cons (pe_call Z.f_turn.G (hr.mono (by decide)) (by rfl) Z.f_turn.g Z.f_turn.F.kp Z.f_turn.b .nil pass0 (pa_cons (pv 4) (pa_cons (pe_call Z.f_pairing.G (hr.mono (by decide)) (by rfl) Z.f_pairing.g Z.f_pairing.F.kp Z.f_pairing.b .nil pass0 (pa_cons (pv 2) (pa_cons (pv 12) (pa_cons (pv 17) pa_nil)))) pa_nil))) pa_nil)))))) pa_nil)))
      (pss_cons (ps_if (pt_cmpR op_ne (pe_callB cr (by rfl) (B "repr" (by decide +kernel)) (by decide +kernel) (pa_cons (pe_call Z.f_voices.G (hr.mono (by decide)) (by rfl) Z.f_voices.g Z.f_voices.F.kp Z.f_voices.b .nil pass0 (pa_cons (pv 2) (pa_cons (pe_call Z.f_moved.G (hr.mono (by decide)) (by rfl) Z.f_moved.g Z.f_moved.F.kp Z.f_moved.b .nil pass0 (pa_cons (pv 2) (pa_cons (pv 9) (pa_cons (pv 12) pa_nil)))) pa_nil))) pa_nil)) (pe_callB cr (by rfl) (B "repr" (by decide +kernel)) (by decide +kernel) (pa_cons (pv 11) pa_nil)) (nomark _)) (pss_one (ps_ret pe_bl)) pss_nil)
      (pss_cons (ps_asg (pe_call Z.f_l_pick.G (hr.mono (by decide)) (by rfl) Z.f_l_pick.g Z.f_l_pick.F.kp Z.f_l_pick.b .nil pass0 (pa_cons (pv 1) (pa_cons (pe_lst (pa_cons (pe_tup (pa_cons pe_int (pa_cons pe_int pa_nil))) (pa_cons (pe_tup (pa_cons pe_int (pa_cons pe_int pa_nil))) (pa_cons (pe_tup (pa_cons pe_int (pa_cons pe_int pa_nil))) (pa_cons (pe_tup (pa_cons pe_int (pa_cons pe_int pa_nil))) (pa_cons (pe_tup (pa_cons pe_int (pa_cons pe_int pa_nil))) (pa_cons (pe_tup (pa_cons pe_int (pa_cons pe_int pa_nil))) (pa_cons (pe_tup (pa_cons pe_int (pa_cons pe_int pa_nil))) (pa_cons (pe_tup (pa_cons pe_int (pa_cons pe_int pa_nil))) (pa_cons (pe_tup (pa_cons pe_int (pa_cons pe_int pa_nil))) (pa_cons (pe_tup (pa_cons pe_int (pa_cons pe_int pa_nil))) pa_nil))))))))))) pa_nil))) (pg_tup rfl (pgs_cons (pg_name (i := 13) scLaw.nd rfl (Or.inl rfl)) (pgs_cons (pg_name (i := 14) scLaw.nd rfl (Or.inl rfl)) pgs_nil))))
      (pss_one (ps_ret (pe_callG Z.f_l_beside.G hA (hr.mono (by decide)) (by rfl) Z.f_l_beside.g Z.f_l_beside.F.kp Z.f_l_beside.b pass0 (pa_cons (pv 1) (pa_cons (pv 13) (pa_cons (pv 14) pa_nil)))))))))),
    fun k a d l vr von vdue pl0 rg r G x6 x7 x8 x10 x12 x13 x14 H hd hOn hDue h14 hc kq => ?_⟩
  have he := er_in r h14
  have l16 := (pl_pos r h14).2
  have l1 := (pl_pos r h14).1
  have lI : (indL r G).length = (placesL r).length := by unfold indL; rw [List.length_map]
  have S1 := rowS_rof h14 lI
  have SD := rowS_due h14 G
  have Gl : G.length ≤ 16 := Nat.le_trans hc.sub.length_le l16
  -- step
  obtain ⟨⟨ka, ha1, ha2, ha3⟩, plL⟩ := id hd.P
  have al : (rf ka).length = (placesL r).length := by rw [← ha2, List.length_map, List.length_map]
  refine ⟨_, rfl, _, rfl, d, l, pl0, _, rfl, hd.D, ha1, plL, by omega, by omega, fun vstep H1 hst D1 k1 => ?_⟩
  obtain ⟨qs, hqs, rfl⟩ := List.mem_map.mp hst
  have hs : qs.2 ∈ placesL r := by rw [← ha2]; exact List.mem_map_of_mem hqs
  have hst1 : TupI K H1 (.ref qs.1) qs.2 := k1.tupI hd.D ⟨qs.1, rfl, SqT.of (ha3.out qs hqs)⟩
  have hd1 := hd.keeps D1 k1
  have hOn1 := k1.row hd.D hOn
  have hDue1 := k1.row hd.D hDue
  clear ha1 ha2 ha3 plL al hst hqs
  refine set_ok ?_
  -- due
  obtain ⟨kp, hk1, hk2, hk3⟩ := id hd1.P.1
  have kl : kp.length = (placesL r).length := by rw [← hk2, List.length_map]
  obtain ⟨ad, ud, rfl, had, hNd⟩ := id hDue1
  have hul : ud.length = (rf kp).length := by rw [hNd.1, SD.c.len, List.length_map, kl]
  refine ⟨_, rfl, _, rfl, pl0, ad, rf kp, ud, rfl, SqL.of hk1, had, fun D hD => ?_⟩
  have tl : (turnedV r qs.2 (sdueL r G)).length = (placesL r).length := by unfold turnedV; rw [List.length_map, List.length_range]
  refine lc_it (walk_zipM (K := K) (a := pl0) (b := ad) (xs := rf kp) (ys := ud) hul) (fun i H2 => Same H1 H2 ∧ ∃ ws, H2 D = some (.lst ws) ∧ Nums K H2 ws ((turnedV r qs.2 (sdueL r G)).take i)) ⟨same_upd hD, [], upd_same, by rw [List.take_zero]; exact nums_nil⟩ (fun i H2 _ ⟨s2, _⟩ => ⟨SqL.of (s2 _ _ hk1), s2.tup had⟩) ?_ ?_
  · rintro i x H2 H3 hi ⟨s2, ws, h2, tn⟩ ⟨Tt, c1, y, rfl, hT, rfl, ec, ey⟩
    obtain ⟨q, rfl, hq⟩ := getR ec
    obtain ⟨m, hm, hum⟩ := hNd.get ey
    have hqm := List.mem_of_getElem? hq
    have hq2 : (placesL r)[i]? = some q.2 := by rw [← hk2, List.getElem?_map, hq]; rfl
    have hqp := List.mem_of_getElem? hq2
    have il := ltL hq2
    have cm := SD.c.num m (List.mem_of_getElem? hm)
    have lm := Int.le_of_dvd (by decide) (SD.d m (List.mem_of_getElem? hm))
    have st : Same H2 (upd H2 Tt (.tup [.ref q.1, y])) := same_upd hT
    refine ⟨Tt, _, rfl, SqT.of upd_same, rfl, _, _, rfl, _, _, rfl, rfl, rfl, ?_⟩
    generalize upd H2 Tt (.tup [.ref q.1, y]) = H3 at st
    have s3 := s2.trans st
    refine ⟨_, rfl, _, rfl, _, rfl, _, rfl, _, rfl, _, rfl, vr, .ref qs.1, .ref q.1, r, qs.2, q.2, rfl, s3.tupI hd1.R, s3.tupI hst1, ⟨q.1, rfl, s3.tup (SqT.of (hk3.out q hqm))⟩, h14, hs, hqp, fun H4 s4 => ?_⟩
    refine ⟨ordL r, _, rfl, ord_er r h14, fun vt H5 s5 hvt => ?_⟩
    have s35 := s4.trans s5
    refine ⟨ordL r, y, vt, m, _, rfl, ord_er r h14, (s3.trans s35).num hum, hvt, numOk_of h14 cm (by omega), numOk_of h14 (numC_turn h14 _) (by show (1 : Int) ≤ 1000; decide), .inr (turn_abs h14 _), fun v' H6 s6 hv' => ?_⟩
    have s26 := st.trans (s35.trans s6)
    have h6 := s26 _ _ h2
    have wl := tn.1
    rw [List.length_take] at wl
    refine ⟨ws, h6, sl_lt (by omega), same_at (s2.trans s26) hD, ws ++ [v'], upd_same, ?_⟩
    rw [takeS (turned_at hq2 hm)]
    exact (nums_at (s26.nums tn) h6).snoc (num_at hv' h6)
  · rintro H2 ⟨s2, ws, h2, tn⟩
    rw [List.length_map, kl, ← tl, List.take_length] at tn
    refine ⟨D, _, rfl, .inl ⟨SqL.of h2, fun T hT => ?_⟩⟩
    have st : Same H2 (upd H2 T (.tup ws)) := same_upd hT
    have hdd : RowAt K (upd H2 T (.tup ws)) (.ref T) (turnedV r qs.2 (sdueL r G)) := ⟨T, ws, rfl, SqT.of upd_same, st.nums tn⟩
    generalize upd H2 T (.tup ws) = H3 at st hdd
    have s13 := s2.trans st
    have hd3 := hd1.same s13
    have hOn3 := s13.row hOn1
    have hst3 := s13.tupI hst1
    have SM := rowS_mov h14 hs S1
    have VM := rowS_vo h14 SM (by decide)
    have lM := SM.lev (by decide) (movL r qs.2 (rofL r (indL r G))).length
    rw [List.take_length] at lM
    have iA : Abs 1 (indL r G) := fun x hx => by
      unfold indL at hx
      obtain ⟨y, _, rfl⟩ := List.mem_map.mp hx
      split <;> decide
    have aM : AbsR 1 (movL r qs.2 (rofL r (indL r G))) := absR_laid (abs_rof iA) (by rw [S1.c.len, movP_len]) (mov_all r h14 qs.2 hs)
    have oM := okd_of h14 VM (by decide) (by decide) (abs_vo h14 (by omega) SM.c aM) (by decide)
    rw [vo_mov h14 hs S1.c, vo_ind h14 hc] at oM
    -- moved
    refine set_ok ?_
    refine next_ifS ?_
    refine cb1_ok ?_
    refine ⟨_, rfl, _, rfl, _, rfl, _, rfl, vr, von, .ref qs.1, r, qs.2, _, rfl, hd3.R, hOn3, hst3, h14, S1.g h14 (by decide) (by decide), hs, fun vm H4 s4 hvm => ?_⟩
    refine ⟨vr, vm, r, _, rfl, s4.tupI hd3.R, hvm, h14, SM.g h14 (by decide) (by decide), fun vv H5 s5 hvv => ?_⟩
    rw [vo_mov h14 hs S1.c, vo_ind h14 hc] at hvv
    obtain ⟨t1, _, rfl, _, _⟩ := id hvv
    refine rep_ok (row_dp hvv) (oM.le (by decide) (by decide)) ?_
    have s35 := s4.trans s5
    refine cb1_ok ?_
    refine ⟨_, rfl, ?_⟩
    refine rep_ok (row_dp (s35.row hdd)) (oM.le (by decide) (by decide)) ?_
    refine ne_same ?_
    refine ite2 (fun c => absurd c (by decide)) fun _ => ?_
    have D5 := s35.deck hd3.D
    -- one, other
    have fst : ∀ (σ : L2.St) (Q1 : VK), (∀ p ks H', Same H5 H' → TL K H' ks → ks.map (·.2) = blL → H5 p = none → H' p = some (.lst (rf ks)) → Q1 (.ref p) H') → tLst (tTups blL) σ H5 Q1 := fun σ Q1 q => lst_tups (K := K) rfl (by decide) (by decide) q
    rw [← tups10] at fst
    refine next_asg ?_
    refine ⟨_, rfl, ?_⟩
    refine fst _ _ fun p ks H6 s6 tk e6 n6 h6 => ?_
    obtain ⟨_, ns5, hl5⟩ := deck_ref D5
    have kn : ks.length = 10 := by
      have := congrArg List.length e6
      rw [List.length_map] at this
      exact this
    refine ⟨d, l, p, _, rfl, s6.deck D5, h6, (ne_of_none hl5 n6).symm, by rw [List.length_map]; omega, by rw [List.length_map]; omega, fun v H7 hv D7 k7 => ?_⟩
    obtain ⟨qv, hqv, rfl⟩ := List.mem_map.mp hv
    have tq := k7.sqt (s6.deck D5) (tk qv hqv)
    have inb : qv.2 ∈ blL := by rw [← e6]; exact List.mem_map_of_mem hqv
    obtain ⟨ab, hab, eab⟩ := blL_ok _ inb
    rw [eab] at tq
    refine ⟨qv.1, _, rfl, tq, rfl, _, _, rfl, _, _, rfl, rfl, ?_⟩
    exact ⟨_, rfl, _, rfl, _, rfl, d, l, ab.1, ab.2, rfl, D7, hab, kq⟩
end
end K09

/-! The law: subgroups. -/
namespace K09
open PySem PySem.Spec PyProof.Rows L2
def acrSc : Scope := { kind := .function, names := [(".0", .local), ("k", .cell), ("group", .free), ("rings", .free)], isGenerator := false, isCoroutine := false }
theorem pl_lex : ∀ r ∈ RR, (placesL r).Pairwise fun x y => HT.lexLt x y = true := by decide +kernel
theorem asc_sub {r : List Int} (h : r ∈ RR) {ps : List (List Int)} (hs : ps.Sublist (placesL r)) : AscL ps := fun k hk => by
  have q := (pl_lex r h).sublist hs
  rw [List.pairwise_iff_getElem] at q
  have z := q k (k + 1) (by omega) hk (by omega)
  rw [List.getD_eq_getElem?_getD, List.getD_eq_getElem?_getD, List.getElem?_eq_getElem (show k < ps.length by omega), List.getElem?_eq_getElem hk]
  exact z
theorem eqv_nilP : ∀ ps : List (List Int), PyData.eqv (.list (ps.map intsD)) (.list []) = decide (ps = []) := by
  intro ps
  cases ps with
  | nil => rfl
  | cons p r => simp [PyData.eqv, PyData.eqvAll]
def rLenS (K : PySem.W.Frag) : List V → Hp → VK → Prop := fun xs H Q => ∃ (p : Addr) (ys : List V), xs = [V.ref p] ∧ (SqL K H p ys ∨ SqT K H p ys) ∧ Q (V.int (ys.length : Nat)) H
theorem pl60 : ∀ r ∈ RR, ∀ p ∈ placesL r, ∀ x ∈ p, 0 ≤ x ∧ x < 60 := by decide +kernel
theorem seq_ifc {c : TT} {t u v : L2.TS} {D : Ends} {σ : L2.St} {H : Hp} (h : c σ H fun b H1 => if b = true then t { D with nx := fun σ2 H2 => v D σ2 H2 } σ H1 else u { D with nx := fun σ2 H2 => v D σ2 H2 } σ H1) : tSeq (tIfS c t u) v D σ H := h
theorem or_op {r : R2} {ta tb : TE} {u : TT} {σ : L2.St} {H : Hp} {Q : Bool → Hp → Prop} (h : ta σ H fun x H1 => tb σ H1 fun y H2 => r x y H2 fun z H3 => ∃ k, z = .bl k ∧ (fun c H1 => if c = true then Q true H1 else u σ H1 Q) k H3) : tOr (tTest (tOp r ta tb)) u σ H Q := h
section
variable {P : Program} {w : World} {K : PySem.W.Frag} {mg : Str → Option Value} {base : Heap} {f : Addr} {cdv : Value} {A : Around} {outer : List Env} {s0 : Shared} {H0 : Hp} {E : XK}
theorem part6 (Z : Fs P w K mg base) (B : Bl mg) (hA : A.guards = some []) (hr : Room 9 (A.deeper (envOfC "law" (defScope sLaw) s0.heap.objs.size f cdv))) :
    ∃ t, PSs (cxOf CX0 P w K mg base lawN "law" (defScope sLaw) f cdv A outer s0 H0 E).nox (lawB.drop 6) t ∧ ∀ (k : Ends) (a d l : Addr) (vr : V) (pl0 rg : Addr) (r : List Int) (x7 x8 x9 x10 x11 x12 x13 x14 : Option V) (H : Hp),
      Hand K d l vr pl0 rg r H → r ∈ RR → (∀ H', k.rt (.bl true) H') →
      t k [some (.ref a), some (.ref d), some vr, some (.ref pl0), some (.int (ordL r)), some (.ref rg), some (.int ((placesL r).length : Nat)), x7, x8, x9, x10, x11, x12, x13, x14, none, none, none, none] H := by
  have hu64 := hr.units
  have hu65 : (A.deeper (envOfC "law" (defScope sLaw) s0.heap.objs.size f cdv)).units + 65 < cLine := by
    have := hr.un
    omega
  have cr : CallR (Cx.nox (cxOf CX0 P w K mg base lawN "law" (defScope sLaw) f cdv A outer s0 H0 E)) (.builtin "repr") (rRepr K) := call_repr hA hr.units
  obtain ⟨t11, p11, k11⟩ := part11 (P := P) (w := w) (K := K) (mg := mg) (base := base) (f := f) (cdv := cdv) (A := A) (outer := outer) (s0 := s0) (H0 := H0) (E := E) Z B hA hr
  refine ⟨_, (pss_cons (ps_set (i := 8) scLaw.nd rfl (Or.inr rfl) (pe_call Z.f_subgroup.G (hr.mono (by decide)) (by rfl) Z.f_subgroup.g Z.f_subgroup.F.kp Z.f_subgroup.b .nil pass0 (pa_cons (pv 2) (pa_cons (pe_callTy call_tuple_of (by rfl) (B "tuple" (by decide +kernel)) (by decide +kernel) (pa_cons (pe_callB (cr_sortedT rfl) (by rfl) (B "sorted" (by decide +kernel)) (by decide +kernel) (pa_cons (pe_callTy (cr_setOfT rfl hu64) (by rfl) (B "set" (by decide +kernel)) (by decide +kernel) (pa_cons (pe_lc (own := [("at", 15)]) (g := gName 15) (tt := tYes) (te := tCall (spPick K) [] E0 (tCons (tVar 1) (tCons (tVar 3) tNil))) rfl scLaw.nd (pi_range1 (by rfl) (B "range" (by decide +kernel)) (pa_cons (pe_call Z.f_l_draw.G (hr.mono (by decide)) (by rfl) Z.f_l_draw.g Z.f_l_draw.F.kp Z.f_l_draw.b .nil pass0 (pa_cons (pv 1) (pa_cons pe_int pa_nil))) pa_nil))
          (blkOk_by (own := [("at", 15)]) (N := lawN) (sc := defScope sLaw) (by decide +kernel)) (fun _ _ _ _ _ => pg_name (i := 15) scLaw.nd rfl (Or.inl rfl)) (fun _ _ _ _ _ => pts_nil)
          (fun _ _ _ _ _ => (pe_call Z.f_l_pick.G (hr.mono (by decide)) (by rfl) Z.f_l_pick.g Z.f_l_pick.F.kp Z.f_l_pick.b .nil pass0 (pa_cons (pv 1) (pa_cons (pv 3) pa_nil))))) pa_nil)) pa_nil)) pa_nil)) pa_nil))))
      (pss_cons (ps_set (i := 9) scLaw.nd rfl (Or.inl rfl) (pe_call Z.f_row_of.G (hr.mono (by decide)) (by rfl) Z.f_row_of.g Z.f_row_of.F.kp Z.f_row_of.b .nil pass0 (pa_cons (pv 2) (pa_cons (pe_callTy call_tuple_of (by rfl) (B "tuple" (by decide +kernel)) (by decide +kernel) (pa_cons (pe_lc (own := [("x", 16)]) (g := gName 16) (tt := tYes) (te := tCB (fun xs H Q => (∃ i, xs = [.int i] ∧ Q (.int i) H) ∨ ∃ k, xs = [.bl k] ∧ Q (.int (if k then 1 else 0)) H) (tCons (tOp (rInDt K) (tVar 16) (tVar 8)) tNil)) rfl scLaw.nd (pi_list (pv 3))
          (blkOk_by (own := [("x", 16)]) (N := lawN) (sc := defScope sLaw) (by decide +kernel)) (fun _ _ _ _ _ => pg_name (i := 16) scLaw.nd rfl (Or.inl rfl)) (fun _ _ _ _ _ => pts_nil)
          (fun _ _ _ _ _ => pe_callTy call_int1 (by rfl) (B "int" (by decide +kernel)) (by decide +kernel) (pa_cons (pe_cmpR (op_inDt hu65) (pv 16) (pv 8) rfl) pa_nil))) pa_nil)) pa_nil))))
      (pss_cons (ps_set (i := 10) scLaw.nd rfl (Or.inr rfl) (pe_callTy call_tuple_of (by rfl) (B "tuple" (by decide +kernel)) (by decide +kernel) (pa_cons (pe_lc (own := [("k", 17)]) (g := gName 17) (tt := tTest (tOp (rEqD K) (tLc (iTup K (tVar 8)) (gName 16) (tTest (tOp rNe (tCall (spPairing K) [] E0 (tCons (tVar 2) (tCons (tVar 16) (tCons (tVar 17) tNil)))) (tC (.int 0)))) (tVar 16) [16]) (tLst tNil))) (te := tVar 17) rfl scLaw.nd (pi_list (pv 3))
          (blkOk_by (own := [("k", 17)]) (N := lawN) (sc := defScope sLaw) (by decide +kernel)) (fun _ _ _ _ _ => pg_name (i := 17) scLaw.nd rfl (Or.inr rfl)) (fun _ _ _ _ _ => pts_one (pt_cmpR (op_eqD hu64) (pe_lc (own := [("x", 16)]) (g := gName 16) (tt := tTest (tOp rNe (tCall (spPairing K) [] E0 (tCons (tVar 2) (tCons (tVar 16) (tCons (tVar 17) tNil)))) (tC (.int 0)))) (te := tVar 16) rfl scLaw.nd (pi_tup (pv 8)) (blkOk_by (own := [("x", 16)]) (N := lawN) (sc := relS acrSc (defScope sLaw)) (by decide +kernel))
            (fun _ _ _ _ _ => pg_name (i := 16) scLaw.nd rfl (Or.inl rfl)) (fun _ _ _ _ _ => pts_one (pt_cmpR op_ne (pe_call Z.f_pairing.G (hr.mono (by decide)) (by rfl) Z.f_pairing.g Z.f_pairing.F.kp Z.f_pairing.b .nil pass0 (pa_cons (pv 2) (pa_cons (pv 16) (pa_cons (pv 17) pa_nil)))) pe_int (nomark _))) (fun _ _ _ _ _ => pv 16)) (pe_lst pa_nil) (nomark _)))
          (fun _ _ _ _ _ => pv 17)) pa_nil)))
      (pss_cons (ps_set (i := 11) scLaw.nd rfl (Or.inl rfl) (pe_callTy call_tuple_of (by rfl) (B "tuple" (by decide +kernel)) (by decide +kernel) (pa_cons (pe_lc (own := [("k", 17)]) (g := gName 17) (tt := tYes) (te := tCall (spLMade K) [] E0 (tCons (tVar 5) (tCons (tLst (tCons (tIf (tTest (tOp (rInDt K) (tVar 17) (tVar 10))) (tCB (rLenS K) (tCons (tVar 8) tNil)) (tC (.int 0))) tNil)) (tCons (tC (.int 1)) tNil)))) rfl scLaw.nd (pi_list (pv 3))
          (blkOk_by (own := [("k", 17)]) (N := lawN) (sc := defScope sLaw) (by decide +kernel)) (fun _ _ _ _ _ => pg_name (i := 17) scLaw.nd rfl (Or.inl rfl)) (fun _ _ _ _ _ => pts_nil)
          (fun _ _ _ _ _ => (pe_call Z.f_l_made.G (hr.mono (by decide)) (by rfl) Z.f_l_made.g Z.f_l_made.F.kp Z.f_l_made.b .nil pass0 (pa_cons (pv 5) (pa_cons (pe_lst (pa_cons (pe_ifExp (pt_cmpR (op_inDt hu65) (pv 17) (pv 10) rfl) (pe_callB call_len_seq (by rfl) (B "len" (by decide +kernel)) PySem.boot_len (pa_cons (pv 8) pa_nil)) pe_int) pa_nil)) (pa_cons pe_int pa_nil)))))) pa_nil)))
      (pss_cons (ps_if (PW.pt (pw_or (pt_cmpR op_ne (pe_callB cr (by rfl) (B "repr" (by decide +kernel)) (by decide +kernel) (pa_cons (pe_tup (pa_cons (pe_call Z.f_voices.G (hr.mono (by decide)) (by rfl) Z.f_voices.g Z.f_voices.F.kp Z.f_voices.b .nil pass0 (pa_cons (pv 2) (pa_cons (pv 9) pa_nil))) (pa_cons (pe_call Z.f_sounding.G (hr.mono (by decide)) (by rfl) Z.f_sounding.g Z.f_sounding.F.kp Z.f_sounding.b .nil pass0 (pa_cons (pv 2) (pa_cons (pv 9) pa_nil))) pa_nil))) pa_nil)) (pe_callB cr (by rfl) (B "repr" (by decide +kernel)) (by decide +kernel) (pa_cons (pe_tup (pa_cons (pv 11) (pa_cons (pv 10) pa_nil))) pa_nil)) (nomark _)) (pw_or1 (pt_cmpR op_ne (pe_op op_mul (pe_callB call_len_seq (by rfl) (B "len" (by decide +kernel)) PySem.boot_len (pa_cons (pv 8) pa_nil)) (pe_callB call_len_seq (by rfl) (B "len" (by decide +kernel)) PySem.boot_len (pa_cons (pv 10) pa_nil))) (pv 6) (nomark _))))) (pss_one (ps_ret pe_bl)) pss_nil)
      p11))))),
    fun k a d l vr pl0 rg r x7 x8 x9 x10 x11 x12 x13 x14 H hd h14 kqq => ?_⟩
  have he := er_in r h14
  have l16 := (pl_pos r h14).2
  have l1 := (pl_pos r h14).1
  have hn := rr_len r h14
  -- group
  refine ⟨_, rfl, _, rfl, d, l, 6, rfl, hd.D, by decide, by decide, fun x H1 x0 x1 D1 k1 => ⟨x, rfl, by omega, by omega, fun L hL => ?_⟩⟩
  have hd1 := hd.keeps D1 k1
  obtain ⟨⟨kp, hk1, hk2, hk3⟩, plL⟩ := id hd1.P
  have kl : kp.length = (placesL r).length := by rw [← hk2, List.length_map]
  have kin : ∀ q ∈ kp, q.2 ∈ placesL r := fun q hq => by rw [← hk2]; exact List.mem_map_of_mem hq
  obtain ⟨⟨mm, jj, hd1'⟩, ns1, hl1⟩ := deck_ref D1
  have plD : pl0 ≠ d := ne_of hk1 hd1' (by intro z; cases z)
  have Ld : L ≠ d := (ne_of_none hd1' hL).symm
  have Ll : L ≠ l := (ne_of_none hl1 hL).symm
  have tk : ∀ {H' : Hp}, Keeps d l H1 H' → TL K H' kp := fun k q hq => k.sqt D1 (SqT.of (hk3.out q hq))
  refine lc_range (lo := 0) (n := x.toNat) (fun i H2 => DeckAt d l H2 ∧ Keeps d l H1 H2 ∧ ∃ ks : List (Addr × List Int), H2 L = some (.lst (rf ks)) ∧ (∀ q ∈ ks, q ∈ kp) ∧ ks.length = i) ⟨D1.new hL, .new hL, [], upd_same, fun q hq => absurd hq (by simp), rfl⟩ ?_ ?_
  · rintro i H2 hi ⟨D2, k2, ks, h2, m2, l2⟩
    refine ⟨rfl, _, rfl, _, rfl, d, l, pl0, rf kp, rfl, D2, k2 _ _ hk1 plD plL, plL, by rw [List.length_map]; omega, by rw [List.length_map]; omega, fun v H3 hv D3 k3 => ?_⟩
    obtain ⟨q, hq, rfl⟩ := List.mem_map.mp hv
    refine ⟨_, k3 _ _ h2 Ld Ll, sl_lt (by rw [List.length_map]; omega), D3.off Ld Ll, fun c o ec nc nl => ?_, ks ++ [q], by rw [upd_same, rf_snoc], fun y hy => ?_, by rw [List.length_append, l2]; rfl⟩
    · rw [upd_ne (ne_of_none ec hL)]
      exact (k2.trans k3) c o ec nc nl
    · rcases List.mem_append.mp hy with z | z
      · exact m2 y z
      · rw [List.mem_singleton.mp z]
        exact hq
  · rintro H2 ⟨D2, k2, ks, h2, m2, l2⟩
    have tk2 : TL K H2 ks := fun q hq => tk k2 q (m2 q hq)
    have hd2 := hd1.keeps D2 k2
    refine ⟨L, ks, rfl, SqL.of h2, tk2, by omega, fun sa S hsa ms1 ms2 => ?_⟩
    have t3 : Same H2 (upd H2 sa (SetTO P w sa S)) := same_upd hsa
    have tS : TL K (upd H2 sa (SetTO P w sa S)) S := fun q hq => t3.tup (tk2 q (ms1 q hq))
    have inS : ∀ q ∈ S, q.2 ∈ placesL r := fun q hq => kin q (m2 q (ms1 q hq))
    refine ⟨sa, S, r.length, 64, rfl, upd_same, tS, hn.1, fun q hq => ⟨rr_whole h14 (inS q hq), pl_bd r h14 _ (inS q hq)⟩, fun S' pp pm nd few pw hpp => ?_⟩
    have t4 : Same (upd H2 sa (SetTO P w sa S)) (upd (upd H2 sa (SetTO P w sa S)) pp (.lst (rf S'))) := same_upd hpp
    have h4 : upd (upd H2 sa (SetTO P w sa S)) pp (.lst (rf S')) pp = some (.lst (rf S')) := upd_same
    have tS4 : TL K (upd (upd H2 sa (SetTO P w sa S)) pp (.lst (rf S'))) S' := fun q hq => t4.tup (tS q (pm.mem_iff.mp hq))
    have s24 := t3.trans t4
    have inS' : ∀ z ∈ S'.map (·.2), z ∈ placesL r := fun z hz => by
      obtain ⟨q, hq, rfl⟩ := List.mem_map.mp hz
      exact inS q (pm.mem_iff.mp hq)
    have subS : (S'.map (·.2)).Sublist (placesL r) := by
      have e := sub_eq h14 (A := S'.map (·.2)) (B := (placesL r).filter fun z => decide (z ∈ S'.map (·.2))) inS' nd (List.pairwise_map.mpr pw) List.filter_sublist fun z => by
        rw [List.mem_filter, decide_eq_true_iff]
        exact ⟨fun y => ⟨inS' z y, y⟩, fun y => y.2⟩
      rw [e]
      exact List.filter_sublist
    refine ⟨pp, _, rfl, .inl ⟨SqL.of h4, fun tt htt => ?_⟩⟩
    have t5 : Same (upd (upd H2 sa (SetTO P w sa S)) pp (.lst (rf S'))) (upd (upd (upd H2 sa (SetTO P w sa S)) pp (.lst (rf S'))) tt (.tup (rf S'))) := same_upd htt
    have pt5 : PlT K (upd (upd (upd H2 sa (SetTO P w sa S)) pp (.lst (rf S'))) tt (.tup (rf S'))) (.ref tt) (S'.map (·.2)) := ⟨tt, S', rfl, SqT.of upd_same, rfl, fun q hq => t5.tup (tS4 q hq)⟩
    have s25 := s24.trans t5
    have hd5 := hd2.same s25
    refine ⟨vr, .ref tt, r, _, rfl, hd5.R, pt5, h14, inS', by rw [List.length_map]; omega, asc_sub h14 subS, fun vg H6 s6 hvg => ?_⟩
    have hc : ClG r (sgL r (S'.map (·.2))) := cl_sg h14 inS'
    generalize sgL r (S'.map (·.2)) = G at hvg hc
    have hd6 := hd5.same s6
    clear hk1 hk2 hk3 kl kin hd1' hl1 plD Ld Ll tk tk2 tS inS tS4 pt5 t3 t4 t5 s24 s25 D1 D2 k1 k2 hd1 hd2 hd5 plL subS
    have Gl : G.length ≤ 16 := Nat.le_trans hc.sub.length_le l16
    have Gin : ∀ g ∈ G, g ∈ placesL r := fun g hg => hc.sub.subset hg
    refine set_ok ?_
    -- on
    obtain ⟨⟨kq, hq1, hq2, hq3⟩, plL6⟩ := id hd6.P
    have ql : kq.length = (placesL r).length := by rw [← hq2, List.length_map]
    refine next_asg ?_
    refine ⟨_, rfl, _, rfl, pl0, rfl, ⟨_, SqL.of hq1⟩, fun D hD => ?_⟩
    have lI : (indL r G).length = (placesL r).length := by unfold indL; rw [List.length_map]
    refine lc_list (K := K) (a := pl0) (xs := rf kq) (fun i H7 => Same H6 H7 ∧ H7 D = some (.lst (((indL r G).take i).map V.int))) ⟨same_upd hD, upd_same⟩ (fun i H7 _ ⟨z, _⟩ => SqL.of (z _ _ hq1)) ?_ ?_
    · rintro i y H7 hi ⟨s7, h7⟩
      obtain ⟨q, rfl, hq⟩ := getR hi
      have hqm := List.mem_of_getElem? hq
      have hqp : (placesL r)[i]? = some q.2 := by rw [← hq2, List.getElem?_map, hq]; rfl
      have hqin := List.mem_of_getElem? hqp
      have il := ltL hqp
      have ei : (indL r G)[i]? = some (if q.2 ∈ G then 1 else 0) := by
        unfold indL
        rw [List.getElem?_map, hqp]
        rfl
      refine ⟨rfl, _, rfl, _, rfl, intsD q.2, _, .tup (s7.tup (SqT.of (hq3.out q hqm))) (dp_ints _), plt_dp (s7.plt hvg), ints_shaped _, pls_shaped _, .inr ⟨_, rfl, ?_⟩⟩
      rw [any_eqv (fun g hg => by rw [rr_whole h14 (Gin g hg), rr_whole h14 hqin])]
      refine ⟨_, h7, sl_lt (by rw [List.length_map, List.length_take]; omega), same_at s7 hD, ?_⟩
      rw [upd_same, takeS ei, List.map_append]
      by_cases cc : q.2 ∈ G
      · rw [decide_eq_true cc, if_pos cc]
        rfl
      · rw [decide_eq_false cc, if_neg cc]
        rfl
    · rintro H7 ⟨s7, h7⟩
      rw [List.length_map, ql, ← lI, List.take_length] at h7
      refine ⟨D, _, rfl, .inl ⟨SqL.of h7, fun tt htt => ?_⟩⟩
      have t8 : Same H7 (upd H7 tt (.tup ((indL r G).map V.int))) := same_upd htt
      have m8 : TupI K (upd H7 tt (.tup ((indL r G).map V.int))) (.ref tt) (indL r G) := ⟨tt, rfl, SqT.of upd_same⟩
      generalize upd H7 tt (.tup ((indL r G).map V.int)) = H8 at t8 m8
      have s68 := s7.trans t8
      refine ⟨vr, .ref tt, r, indL r G, rfl, s68.tupI hd6.R, m8, h14, lI, fun von H9 s9 hon => ?_⟩
      have s69 := s68.trans s9
      have hd9 := hd6.same s69
      have hvg9 := s69.plt hvg
      have hq19 := s69 _ _ hq1
      have hq39 := tp_same s69 hq3
      refine set_ok ?_
      -- across
      obtain ⟨gp, gk, rfl, hgp, hgk, htg⟩ := id hvg9
      have gl : gk.length = G.length := by rw [← hgk, List.length_map]
      refine seq_asg ?_
      refine ⟨_, rfl, pl0, rfl, ⟨_, SqL.of hq19⟩, fun D2 hD2 => ?_⟩
      refine lc_list (K := K) (a := pl0) (xs := rf kq) (fun i H10 => Same H9 H10 ∧ ∃ ks : List (Addr × List Int), H10 D2 = some (.lst (rf ks)) ∧ TL K H10 ks ∧ ks.map (·.2) = ((placesL r).take i).filter (fun z => acrB r G z)) ⟨same_upd hD2, [], upd_same, tl_nil, rfl⟩ (fun i H10 _ ⟨z, _⟩ => SqL.of (z _ _ hq19)) ?_ ?_
      · rintro i y H10 hi ⟨s10, ks, h10, tk10, ek⟩
        obtain ⟨q, rfl, hq⟩ := getR hi
        have hqm := List.mem_of_getElem? hq
        have hqp : (placesL r)[i]? = some q.2 := by rw [← hq2, List.getElem?_map, hq]; rfl
        have hqin := List.mem_of_getElem? hqp
        have il := ltL hqp
        have kl : ks.length ≤ i := by
          have e := congrArg List.length ek
          rw [List.length_map] at e
          have := List.length_filter_le (fun z => acrB r G z) ((placesL r).take i)
          rw [List.length_take] at this
          omega
        have tq10 : SqT K H10 q.1 (q.2.map V.int) := s10.tup (SqT.of (hq39.out q hqm))
        have hg10 := s10.tup hgp
        refine ⟨rfl, _, rfl, gp, rfl, ⟨_, hg10⟩, fun C hC => ?_⟩
        refine lc_tup (K := K) (a := gp) (xs := rf gk) (fun j H11 => Same H10 H11 ∧ ∃ zs : List (Addr × List Int), H11 C = some (.lst (rf zs)) ∧ TL K H11 zs ∧ zs.map (·.2) = ((gk.map (·.2)).take j).filter (fun g => !decide (pairL r (ordL r) g q.2 = 0))) ⟨same_upd hC, [], upd_same, tl_nil, rfl⟩ (fun j H11 _ ⟨z, _⟩ => z.tup hg10) ?_ ?_
        · rintro j yg H11 hj ⟨s11, zs, h11, tz11, ez⟩
          obtain ⟨g, rfl, hg⟩ := getR hj
          have hgm := List.mem_of_getElem? hg
          have hg2 : (gk.map (·.2))[j]? = some g.2 := by rw [List.getElem?_map, hg]; rfl
          have hgin := Gin g.2 (by rw [← hgk]; exact List.mem_of_getElem? hg2)
          have jl := ltL hg
          have zl : zs.length ≤ j := by
            have e := congrArg List.length ez
            rw [List.length_map] at e
            have := List.length_filter_le (fun g => !decide (pairL r (ordL r) g q.2 = 0)) ((gk.map (·.2)).take j)
            rw [List.length_take] at this
            omega
          have s911 := s10.trans s11
          refine ⟨rfl, _, rfl, _, rfl, _, rfl, vr, .ref g.1, .ref q.1, r, g.2, q.2, rfl, s911.tupI hd9.R, ⟨g.1, rfl, s911.tup (htg g hgm)⟩, ⟨q.1, rfl, s11.tup tq10⟩, h14, hgin, hqin, fun H12 s12 => ?_⟩
          refine ⟨rfl, _, rfl, ?_⟩
          refine ite2 (fun c => ?_) (fun c => ?_)
          · have c1 : ¬ pairL r (ordL r) g.2 q.2 = 0 := by simpa using c
            refine ⟨_, rfl, _, s12 _ _ h11, sl_lt (by rw [List.length_map]; omega), same_at (s11.trans s12) hC, zs ++ [g], by rw [upd_same, rf_snoc], fun p hp => ?_, ?_⟩
            · have e : upd H12 C (.lst (rf zs ++ [V.ref g.1])) = upd H12 C (.lst (rf zs ++ [V.ref g.1])) := rfl
              rcases List.mem_append.mp hp with z | z
              · exact sqt_at (s12.tup (tz11 p z)) (s12 _ _ h11)
              · rw [List.mem_singleton.mp z]
                exact sqt_at ((s911.trans s12).tup (htg g hgm)) (s12 _ _ h11)
            · rw [List.map_append, ez, takeS hg2, List.filter_append]
              simp [c1]
          · have c1 : pairL r (ordL r) g.2 q.2 = 0 := by simpa using c
            refine ⟨s11.trans s12, zs, s12 _ _ h11, fun p hp => s12.tup (tz11 p hp), ?_⟩
            rw [ez, takeS hg2, List.filter_append]
            simp [c1]
        · rintro H11 ⟨s11, zs, h11, tz11, ez⟩
          rw [List.length_map, ← List.length_map (f := fun p : Addr × List Int => p.2), List.take_length, hgk] at ez
          refine ⟨by decide, fun ze hze => ?_⟩
          have t12 : Same H11 (upd H11 ze (.lst [])) := same_upd hze
          have ke : SqL K (upd H11 ze (.lst [])) ze [] := SqL.of upd_same
          generalize upd H11 ze (.lst []) = H12 at t12 ke
          have dz : Dp K H12 (.ref C) (.list ((zs.map (·.2)).map intsD)) := .lst (SqL.of (t12 _ _ h11)) (dp_all fun p hp => t12.tup (tz11 p hp))
          refine ⟨_, .list [], dz, .lst ke .nil, pls_shaped _, pls_shaped [], _, rfl, ?_⟩
          rw [eqv_nilP, ez]
          have ea : decide (G.filter (fun g => !decide (pairL r (ordL r) g q.2 = 0)) = []) = acrB r G q.2 := by
            unfold acrB
            rw [Bool.eq_iff_iff, decide_eq_true_iff, List.filter_eq_nil_iff, List.all_eq_true]
            refine ⟨fun z x hx => ?_, fun z x hx => ?_⟩
            · have := z x hx
              simpa using this
            · have := z x hx
              simpa using this
          rw [ea]
          have s1012 := s11.trans t12
          have h12 := s1012 _ _ h10
          refine ite2 (fun c => ?_) (fun c => ?_)
          · refine ⟨_, rfl, _, h12, sl_lt (by rw [List.length_map]; omega), same_at (s10.trans s1012) hD2, ks ++ [q], by rw [upd_same, rf_snoc], fun p hp => ?_, ?_⟩
            · rcases List.mem_append.mp hp with z | z
              · exact sqt_at (s1012.tup (tk10 p z)) h12
              · rw [List.mem_singleton.mp z]
                exact sqt_at (s1012.tup tq10) h12
            · rw [List.map_append, ek, takeS hqp, List.filter_append]
              simp [c]
          · have c1 : acrB r G q.2 = false := by simpa using c
            refine ⟨s10.trans s1012, ks, h12, fun p hp => s1012.tup (tk10 p hp), ?_⟩
            rw [ek, takeS hqp, List.filter_append]
            simp [c1]
      · rintro H10 ⟨s10, ks, h10, tk10, ek⟩
        rw [List.length_map, ql, List.take_length] at ek
        have ek' : ks.map (·.2) = acrL r G := ek
        refine ⟨D2, _, rfl, .inl ⟨SqL.of h10, fun ap hap => ?_⟩⟩
        have t11 : Same H10 (upd H10 ap (.tup (rf ks))) := same_upd hap
        have pA : PlT K (upd H10 ap (.tup (rf ks))) (.ref ap) (acrL r G) := ⟨ap, ks, rfl, SqT.of upd_same, ek', fun p hp => t11.tup (tk10 p hp)⟩
        have kA : SqT K (upd H10 ap (.tup (rf ks))) ap (rf ks) := SqT.of upd_same
        generalize upd H10 ap (.tup (rf ks)) = H11 at t11 pA kA
        have s911 := s10.trans t11
        have hd11 := hd9.same s911
        have hg11 := s911.tup hgp
        have hon11 := s911.row hon
        have hq111 := s911 _ _ hq19
        have Ain : ∀ z ∈ acrL r G, z ∈ placesL r := fun z hz => (List.mem_filter.mp hz).1
        have Al : (acrL r G).length ≤ 16 := Nat.le_trans (List.length_filter_le _ _) l16
        refine set_ok ?_
        -- due
        refine seq_asg ?_
        refine ⟨_, rfl, pl0, rfl, ⟨_, SqL.of hq111⟩, fun D3 hD3 => ?_⟩
        have SD := rowS_due h14 G
        refine lc_list (K := K) (a := pl0) (xs := rf kq) (fun i H12 => Same H11 H12 ∧ ∃ ws, H12 D3 = some (.lst ws) ∧ Nums K H12 ws ((sdueL r G).take i)) ⟨same_upd hD3, [], upd_same, by rw [List.take_zero]; exact nums_nil⟩ (fun i H12 _ ⟨z, _⟩ => SqL.of (z _ _ hq111)) ?_ ?_
        · rintro i y H12 hi ⟨s12, ws, h12, tn⟩
          obtain ⟨q, rfl, hq⟩ := getR hi
          have hqm := List.mem_of_getElem? hq
          have hqp : (placesL r)[i]? = some q.2 := by rw [← hq2, List.getElem?_map, hq]; rfl
          have hqin := List.mem_of_getElem? hqp
          have il := ltL hqp
          have tq12 : SqT K H12 q.1 (q.2.map V.int) := (s911.trans s12).tup (SqT.of (hq39.out q hqm))
          have ei : (sdueL r G)[i]? = some (whN r (if acrB r G q.2 = true then ((G.length : Nat) : Int) else 0)) := by
            unfold sdueL
            rw [List.getElem?_map, hqp]
            rfl
          have fin : ∀ (c : Int), c = (if acrB r G q.2 = true then ((G.length : Nat) : Int) else 0) → ∀ (Lc : Addr), H12 Lc = none → spLMade K ([.ref rg, .ref Lc, .int 1] ++ []) (upd H12 Lc (.lst [.int c])) (fun y H4 => ∃ acc, H4 D3 = some (.lst acc) ∧ acc.length < sizeLine ∧ (Same H11 (upd H4 D3 (.lst (acc ++ [y]))) ∧ ∃ ws, upd H4 D3 (.lst (acc ++ [y])) D3 = some (.lst ws) ∧ Nums K (upd H4 D3 (.lst (acc ++ [y]))) ws ((sdueL r G).take (i + 1)))) E0 := fun c ec Lc hLc => by
            have t13 : Same H12 (upd H12 Lc (.lst [.int c])) := same_upd hLc
            refine ⟨rg, Lc, [c], ordL r, 1, rfl, ord_er r h14, SqL.of ((s12.trans t13) _ _ hd11.G.1), .inl (SqL.of upd_same), by show 1 ≤ 100; decide, by decide, by decide, fun v' H14 s14 hv' => ?_⟩
            rw [rof_eq h14, ec] at hv'
            have s1214 := t13.trans s14
            have h14' := s1214 _ _ h12
            have wl := tn.1
            rw [List.length_take] at wl
            refine ⟨ws, h14', sl_lt (by omega), same_at (s12.trans s1214) hD3, ws ++ [v'], upd_same, ?_⟩
            rw [takeS ei]
            exact (nums_at (s1214.nums tn) h14').snoc (num_at hv' h14')
          have mem : decide (q.2 ∈ acrL r G) = acrB r G q.2 := by
            rw [Bool.eq_iff_iff, decide_eq_true_iff]
            exact ⟨fun z => (List.mem_filter.mp z).2, fun z => List.mem_filter.mpr ⟨hqin, z⟩⟩
          refine ⟨rfl, _, rfl, _, rfl, _, rfl, intsD q.2, _, .tup tq12 (dp_ints _), plt_dp (s12.plt pA), ints_shaped _, pls_shaped _, _, rfl, ?_⟩
          rw [any_eqv (fun g hg => by rw [rr_whole h14 (Ain g hg), rr_whole h14 hqin]), mem]
          refine ite2 (fun c => ?_) (fun c => ?_)
          · refine ⟨_, rfl, gp, _, rfl, .inr (s12.tup hg11), by show 1 ≤ sizeLine; decide, fun Lc hLc => ?_⟩
            refine fin _ ?_ Lc hLc
            rw [if_pos c, List.length_map, gl]
          · refine ⟨by show 1 ≤ sizeLine; decide, fun Lc hLc => ?_⟩
            refine fin _ ?_ Lc hLc
            rw [if_neg c]
        · rintro H12 ⟨s12, ws, h12, tn⟩
          rw [List.length_map, ql, ← SD.c.len, List.take_length] at tn
          refine ⟨D3, _, rfl, .inl ⟨SqL.of h12, fun dp hdp => ?_⟩⟩
          have t13 : Same H12 (upd H12 dp (.tup ws)) := same_upd hdp
          have hdue : RowAt K (upd H12 dp (.tup ws)) (.ref dp) (sdueL r G) := ⟨dp, ws, rfl, SqT.of upd_same, t13.nums tn⟩
          generalize upd H12 dp (.tup ws) = H13 at t13 hdue
          have s1113 := s12.trans t13
          have hd13 := hd11.same s1113
          have hon13 := s1113.row hon11
          have pA13 := s1113.plt pA
          have kA13 := s1113.tup kA
          have hg13 := s1113.tup hg11
          refine set_ok ?_
          have S1 := rowS_rof h14 lI
          have g1 := S1.g h14 (by decide) (by decide)
          have oD : OkD 4 560 (rowD (sdueL r G)) := okd_of h14 SD (by decide) (by decide) (abs_due Gl) (by decide)
          have oP : OkD 4 560 (plD (acrL r G)) := okd_pl (fun p hp => ⟨by rw [rr_whole h14 (Ain p hp)]; exact hn.2, pl60 r h14 p (Ain p hp)⟩) Al
          have ok2 : OkD 40 50000 (.tuple [rowD (sdueL r G), plD (acrL r G)]) := by
            refine okd_list (fun x hx => ?_) (by show 2 ≤ 3; decide)
            rcases List.mem_cons.mp hx with rfl | hx
            · exact oD
            · rw [List.mem_singleton.mp hx]
              exact oP
          -- voices, sounding
          refine seq_ifc ?_
          refine or_op ?_
          refine cb1_ok ?_
          refine tup2_ok ?_
          refine ⟨_, rfl, _, rfl, vr, von, r, _, rfl, hd13.R, hon13, h14, g1, fun vv H14 s14 hvv => ?_⟩
          rw [vo_ind h14 hc] at hvv
          refine ⟨_, rfl, _, rfl, vr, von, r, _, rfl, s14.tupI hd13.R, s14.row hon13, h14, g1, fun vs H15 s15 hvs => ?_⟩
          rw [vo_ind h14 hc, fil_due hc] at hvs
          refine ⟨by show 2 ≤ sizeLine; decide, fun q hq => ?_⟩
          have sq : Same H15 (upd H15 q (.tup [vv, vs])) := same_upd hq
          have gq : SqT K (upd H15 q (.tup [vv, vs])) q [vv, vs] := SqT.of upd_same
          generalize upd H15 q (.tup [vv, vs]) = H16 at sq gq
          refine rep_ok (d := .tuple [rowD (sdueL r G), plD (acrL r G)]) (.tup gq (.cons (row_dp ((s15.trans sq).row hvv)) (.cons (plt_dp (sq.plt hvs)) .nil))) ok2 ?_
          have s1316 := (s14.trans s15).trans sq
          refine cb1_ok ?_
          refine tup2_ok ?_
          refine ⟨_, rfl, _, rfl, by show 2 ≤ sizeLine; decide, fun q2 hq2 => ?_⟩
          have sq2 : Same H16 (upd H16 q2 (.tup [.ref dp, .ref ap])) := same_upd hq2
          have gq2 : SqT K (upd H16 q2 (.tup [.ref dp, .ref ap])) q2 [.ref dp, .ref ap] := SqT.of upd_same
          generalize upd H16 q2 (.tup [.ref dp, .ref ap]) = H17 at sq2 gq2
          refine rep_ok (d := .tuple [rowD (sdueL r G), plD (acrL r G)]) (.tup gq2 (.cons (row_dp ((s1316.trans sq2).row hdue)) (.cons (plt_dp ((s1316.trans sq2).plt pA13)) .nil))) ok2 ?_
          refine ne_same ?_
          refine ite2 (fun c => absurd c (by decide)) fun _ => ?_
          have s1317 := s1316.trans sq2
          have ec := sg_count h14 hc
          have gl' : (rf gk).length = G.length := by rw [List.length_map, gl]
          have al' : (rf ks).length = (acrL r G).length := by
            have := congrArg List.length ek'
            rw [List.length_map] at this
            rw [List.length_map, this]
          refine ⟨_, rfl, gp, _, rfl, .inr (s1317.tup hg13), _, rfl, ap, _, rfl, .inr (s1317.tup kA13), _, _, rfl, rfl, ?_, _, rfl, rfl, _, rfl, ?_⟩
          · exact Or.inl ⟨by omega, by omega⟩
          rw [gl', al']
          refine ite2 (fun c => absurd c (by simp [ec])) fun _ => ?_
          exact k11 _ a d l vr von (.ref dp) pl0 rg r G _ _ _ _ _ _ _ _ (hd13.same s1317) (s1317.row hon13) (s1317.row hdue) h14 hc kqq
end
end K09

namespace K09
open PySem PySem.Spec PyProof.Rows L2
/-! ### the law's def, where nothing is being shown -/
theorem good_row {r : List Int} (hr : r ∈ RR) {ns : List Num} (hl : ns.length = (placesL r).length) (h : ∀ m ∈ ns, GoodN (ordL r) m) : RowS r 6 ns ∧ AbsR 3 ns :=
  ⟨⟨⟨hl, fun n hn => good_c hr (h n hn)⟩, fun n hn => (h n hn).six⟩, fun n hn t ht => by have := (h n hn).small t ht; omega⟩
def spLaw (K : PySem.W.Frag) : Sp := fun vs H Q _ => ∃ (a : Addr) (ns : List Int), vs = [.ref a] ∧ SqL K H a (ns.map V.int) ∧ ns.length ≤ 63 ∧ ∀ H', Q (.bl true) H'
theorem pl_ne {K : PySem.W.Frag} {d l : Addr} {H : Hp} (D : DeckAt d l H) {a : Addr} {r : List Int} (hr : r ∈ RR) (h : PlL K H a (placesL r)) : a ≠ l := by
  obtain ⟨_, ns, h2⟩ := deck_ref D
  obtain ⟨ks, h3, h4, _⟩ := h
  rintro rfl
  rw [h3] at h2
  have e := HO.lst.inj (Option.some.inj h2)
  have hn : 0 < (placesL r).length := by have := (pl_pos r hr).1; omega
  rw [← h4, List.length_map] at hn
  cases ks with
  | nil => simp at hn
  | cons k ks =>
    cases ns with
    | nil => simp [rf] at e
    | cons n ns =>
      simp only [rf, List.map_cons] at e
      cases e
section
variable {P : Program} {w : World} {K : PySem.W.Frag} {mg : Str → Option Value} {base : Heap} {f : Addr} {fd : FuncData}
theorem ok_law (F : FnP K "law" sLaw f fd) (B : Bl mg) (Z : Fs P w K mg base)
    {A : Around} (hA : A.guards = some []) (hr : Room 10 A) (outer : List Env) (s : Shared) (H : Hp) (args : Args) (us : List Value) (vs : List V) (Q : VK) (E : XK) (e0 : Env0 P w K mg base A outer s H)
    (hb : BindsTo s fd args ((["script"] : List Str).zip us)) (r : Vals vs us) (hsp : spLaw K vs H Q E) : codeAny (model P w) A (.call (.ref f) args) (CR CX0 outer P w H s Q E) s := by
  refine fn_at F scLaw (fun vs H Q E h => ?_) hr (fun cdv outer s H vs Q E hr h => ?_) outer s H args us vs Q E e0 hb r hsp
  · obtain ⟨a, ns, rfl, _⟩ := h
    rfl
  · obtain ⟨t6, p6, k6⟩ := part6 (P := P) (w := w) (K := K) (mg := mg) (base := base) (f := f) (cdv := cdv) (A := A) (outer := outer) (s0 := s) (H0 := H) (E := E) Z B hA hr
    refine ⟨_, PSs.nox (pss_cons (ps_set (i := 1) scLaw.nd rfl (Or.inr rfl) (pe_call Z.f_l_deck.G (hr.mono (by decide)) (by rfl) Z.f_l_deck.g Z.f_l_deck.F.kp Z.f_l_deck.b .nil pass0 (pa_cons (pv 0) pa_nil)))
      (pss_cons (ps_set (i := 2) scLaw.nd rfl (Or.inr rfl) (pe_call Z.f_l_rings.G (hr.mono (by decide)) (by rfl) Z.f_l_rings.g Z.f_l_rings.F.kp Z.f_l_rings.b .nil pass0 (pa_cons (pv 1) (pa_cons (pe_call Z.f_l_pick.G (hr.mono (by decide)) (by rfl) Z.f_l_pick.g Z.f_l_pick.F.kp Z.f_l_pick.b .nil pass0 (pa_cons (pv 1) (pa_cons (pe_lst (pa_cons pe_int (pa_cons pe_int (pa_cons pe_int (pa_cons pe_int (pa_cons pe_int (pa_cons pe_int (pa_cons pe_int pa_nil)))))))) pa_nil))) pa_nil))))
      (pss_cons (ps_asg (pe_tup (pa_cons (pe_call Z.f_l_places.G (hr.mono (by decide)) (by rfl) Z.f_l_places.g Z.f_l_places.F.kp Z.f_l_places.b .nil pass0 (pa_cons (pv 2) pa_nil)) (pa_cons (pe_call Z.f_l_order.G (hr.mono (by decide)) (by rfl) Z.f_l_order.g Z.f_l_order.F.kp Z.f_l_order.b .nil pass0 (pa_cons (pv 2) pa_nil)) pa_nil))) (pg_tup rfl (pgs_cons (pg_name (i := 3) scLaw.nd rfl (Or.inr rfl)) (pgs_cons (pg_name (i := 4) scLaw.nd rfl (Or.inr rfl)) pgs_nil))))
      (pss_cons (ps_asg (pe_tup (pa_cons (pe_call Z.f_l_ring.G (hr.mono (by decide)) (by rfl) Z.f_l_ring.g Z.f_l_ring.F.kp Z.f_l_ring.b .nil pass0 (pa_cons (pv 4) pa_nil)) (pa_cons (pe_callB call_len_seq (by rfl) (B "len" (by decide +kernel)) PySem.boot_len (pa_cons (pv 3) pa_nil)) pa_nil))) (pg_tup rfl (pgs_cons (pg_name (i := 5) scLaw.nd rfl (Or.inr rfl)) (pgs_cons (pg_name (i := 6) scLaw.nd rfl (Or.inl rfl)) pgs_nil))))
      (pss_cons (ps_set (i := 7) scLaw.nd rfl (Or.inl rfl) (pe_call Z.f_l_row.G (hr.mono (by decide)) (by rfl) Z.f_l_row.g Z.f_l_row.F.kp Z.f_l_row.b .nil pass0 (pa_cons (pv 1) (pa_cons (pv 5) (pa_cons (pv 6) pa_nil)))))
      (pss_cons (ps_if (pt_not (pt_val (pe_callG Z.f_l_loud.G hA (hr.mono (by decide)) (by rfl) Z.f_l_loud.g Z.f_l_loud.F.kp Z.f_l_loud.b pass0 (pa_cons (pv 4) (pa_cons (pv 6) (pa_cons (pv 5) (pa_cons (pv 7) (pa_cons (pe_call Z.f_voices.G (hr.mono (by decide)) (by rfl) Z.f_voices.g Z.f_voices.F.kp Z.f_voices.b .nil pass0 (pa_cons (pv 2) (pa_cons (pv 7) pa_nil))) pa_nil)))))))) (pss_one (ps_ret pe_bl)) pss_nil)
      p6)))))), ?_⟩
    obtain ⟨a, ns, rfl, hS, hlen, hQ⟩ := h
    refine ⟨_, rfl, a, ns, rfl, hS, hlen, fun d l H1 D1 _ _ _ => ?_⟩
    -- rings
    refine ⟨_, rfl, _, rfl, by show 7 ≤ sizeLine; decide, fun p hp => ?_⟩
    obtain ⟨_, ns1, hl1⟩ := deck_ref D1
    refine ⟨d, l, p, _, rfl, D1.new hp, upd_same, (ne_of_none hl1 hp).symm, by show 1 ≤ 7; decide, by show 7 < 1000000; decide, fun v H2 hv D2 k2 => ?_⟩
    obtain ⟨m, rfl, hm⟩ : ∃ m, v = V.int m ∧ m ∈ ([6, 8, 9, 12, 16] : List Int) := by
      have : v ∈ ([9, 8, 6, 9, 8, 12, 16] : List Int).map V.int := hv
      obtain ⟨m, h1, rfl⟩ := List.mem_map.mp this
      exact ⟨m, rfl, (by decide : ∀ m ∈ ([9, 8, 6, 9, 8, 12, 16] : List Int), m ∈ ([6, 8, 9, 12, 16] : List Int)) m h1⟩
    refine ⟨d, l, m, rfl, D2, hm, fun vr r H3 D3 k3 hvr h14 => ?_⟩
    have he := er_in r h14
    have l16 := (pl_pos r h14).2
    have l1 := (pl_pos r h14).1
    -- places, e
    refine ⟨_, rfl, _, r, rfl, hvr, h14, fun pl0 H4 s4 hpl => ?_⟩
    refine ⟨_, rfl, _, r, rfl, s4.tupI hvr, h14, fun H5 s5 => ?_⟩
    refine ⟨by show 2 ≤ sizeLine; decide, fun pt hpt => ?_⟩
    have s6 : Same H5 (upd H5 pt (.tup [.ref pl0, .int (ordL r)])) := same_upd hpt
    refine ⟨pt, _, rfl, SqT.of upd_same, rfl, _, _, rfl, _, _, rfl, rfl, ?_⟩
    generalize upd H5 pt (.tup [.ref pl0, .int (ordL r)]) = H6 at s6
    have s36 := (s4.trans s5).trans s6
    have D6 := s36.deck D3
    have hvr6 := s36.tupI hvr
    have hpl6 := (s5.trans s6).pll hpl
    -- ring, n
    refine ⟨_, rfl, ordL r, rfl, he, fun rg H7 s7 nrg hrg => ?_⟩
    obtain ⟨kp, hk1, hk2, hk3⟩ := s7.pll hpl6
    have hkl : (rf kp).length = (placesL r).length := by rw [← hk2, List.length_map, List.length_map]
    refine ⟨_, rfl, pl0, _, rfl, .inl (SqL.of hk1), by show 2 ≤ sizeLine; decide, fun pt2 hpt2 => ?_⟩
    rw [hkl]
    have s8 : Same H7 (upd H7 pt2 (.tup [.ref rg, .int ((placesL r).length : Nat)])) := same_upd hpt2
    refine ⟨pt2, _, rfl, SqT.of upd_same, rfl, _, _, rfl, _, _, rfl, rfl, ?_⟩
    generalize upd H7 pt2 (.tup [.ref rg, .int ((placesL r).length : Nat)]) = H8 at s8
    have s68 := s7.trans s8
    have D8 := s68.deck D6
    obtain ⟨_, ns6, hl6⟩ := deck_ref D6
    have hd8 : Hand K d l vr pl0 rg r H8 := ⟨D8, s68.tupI hvr6, ⟨s68.pll hpl6, pl_ne D8 h14 (s68.pll hpl6)⟩, ⟨s8 _ _ hrg, (ne_of_none hl6 nrg).symm⟩⟩
    clear hk1 hk2 hk3 hkl
    -- row
    refine ⟨_, rfl, _, rfl, _, rfl, d, l, rg, ordL r, (placesL r).length, rfl, he, l16, hd8.D, hd8.G, fun vrow ms H9 D9 k9 hrow lrow grow => ?_⟩
    have hd9 := hd8.keeps D9 k9
    obtain ⟨sR, aR⟩ := good_row h14 lrow grow
    -- loudness
    refine ⟨_, rfl, _, rfl, _, rfl, _, rfl, _, rfl, _, rfl, vr, vrow, r, ms, rfl, hd9.R, hrow, h14, sR.g h14 (by decide) (by decide), fun vt H10 s10 hvt => ?_⟩
    refine ⟨rg, vrow, vt, r, ms, rfl, h14, SqL.of (s10.ring hd9.G).1, s10.row hrow, hvt, sR, aR, fun H11 s11 => ?_⟩
    refine ⟨_, rfl, ?_⟩
    exact k6 _ a d l vr pl0 rg r _ _ _ _ _ _ _ _ H11 (hd9.same (s10.trans s11)) h14 hQ
end
end K09

/-! The facts that the head must tell. -/
namespace K09
open PySem PySem.Spec PyProof.Rows L2
def dGlo (x : Str) (st : Stmt) : He.DefD := ⟨(x, none), x, x, defArgs st, defBody st, defScope st, [], []⟩
def dMe (m q : Str) (st : Stmt) : He.DefD := ⟨("Floor", some m), m, q, defArgs st, defBody st, defScope st, [], []⟩
def fn : List He.DefD := [dGlo "list_places" sPlaces, dGlo "common_order" sOrder, dGlo "added" sAdd, dGlo "repeated" sRep, dGlo "paired" sPaired, dGlo "units_of" sUnits, dGlo "primes_of" sPrimes, dGlo "polynomial_of" sPoly, dGlo "_stretched" sStr, dGlo "_divided" sDiv, dGlo "reduced" sRed, dGlo "multiplied" sMulP, dGlo "spread" sSpread, dGlo "exchanged_tops" sExT, dGlo "lowered" sLow, dGlo "is_integer" sIsInt, dGlo "is_integers" sIsInts, dGlo "is_ascending" sIsAsc, dGlo "is_order" sIsOrd, dGlo "check_order" sChkO, dGlo "check_number" sChkN, dGlo "is_number" sIsNum, dGlo "turn" sTurn, dGlo "plus" sPlus, dGlo "_sum" sSumN, dGlo "times" sTimes, dGlo "_product" sProd, dGlo "loudness" sLoud, dGlo "lifted" sLifted, dGlo "are_rings" sAre, dGlo "_size" sSize, dGlo "check_rings" sChkR, dGlo "is_place" sIsPl, dGlo "check_place" sChkP, dGlo "check_lot" sChkLot, dGlo "size_of" sSizeOf, dGlo "order_of" sOrdOf, dGlo "pairing" sPairing, dGlo "is_lot" sIsLot, dGlo "subgroup" sSubgroup, dGlo "levelled" sLev, dGlo "turned_sum" sTSum, dGlo "voices_of" sVOf, dGlo "is_zero" sIsZero, dGlo "is_row" sIsRow, dGlo "is_whole" sIsWhole, dGlo "check_row" sChkRow, dGlo "check_whole" sChkWhole, dGlo "row_of" sRowOf, dGlo "voice" sVoice, dGlo "voices" sVoices, dGlo "sounding" sSounding, dGlo "_places_of_some" sSome, dGlo "moved" sMoved, dGlo "_laid" sLaid, dGlo "_law_deck" sDeck, dGlo "_law_draw" sDraw, dGlo "_law_pick" sPick, dGlo "_law_gcd" sLGcd, dGlo "_law_order" sLOrder, dGlo "_law_places" sLPlaces, dGlo "_law_ring" sLRing, dGlo "_law_made" sLMade, dGlo "_law_rings" sLRings, dGlo "_law_number" sLNumber, dGlo "_law_row" sLRow, dGlo "_law_is_loudness_right" sLLoud, dGlo "_law_is_beside_right" sLBeside, dGlo "law" sLaw] ++ [dMe "__init__" "Floor.__init__" sFInit, dMe "pairing_of" "Floor.pairing_of" sFPair, dMe "tops_of" "Floor.tops_of" sFTops]
def fa : List He.Fa := [.glo "list_places", .glo "common_order", .glo "added", .glo "repeated", .glo "paired", .glo "units_of", .glo "primes_of", .glo "polynomial_of", .glo "_stretched", .glo "_divided", .glo "reduced", .glo "multiplied", .glo "spread", .glo "exchanged_tops", .glo "lowered", .glo "is_integer", .glo "is_integers", .glo "is_ascending", .glo "is_order", .glo "check_order", .glo "check_number", .glo "is_number", .glo "turn", .glo "plus", .glo "_sum", .glo "times", .glo "_product", .glo "loudness", .glo "lifted", .glo "are_rings", .glo "_size", .glo "check_rings", .glo "is_place", .glo "check_place", .glo "check_lot", .glo "size_of", .glo "order_of", .glo "pairing", .glo "is_lot", .glo "subgroup", .glo "levelled", .glo "turned_sum", .glo "voices_of", .glo "is_zero", .glo "is_row", .glo "is_whole", .glo "check_row", .glo "check_whole", .glo "row_of", .glo "voice", .glo "voices", .glo "sounding", .glo "_places_of_some", .glo "moved", .glo "_laid", .glo "_law_deck", .glo "_law_draw", .glo "_law_pick", .glo "_law_gcd", .glo "_law_order", .glo "_law_places", .glo "_law_ring", .glo "_law_made", .glo "_law_rings", .glo "_law_number", .glo "_law_row", .glo "_law_is_loudness_right", .glo "_law_is_beside_right", .glo "law"] ++ blt.map .free ++ [.free "any", .int "MOST_RINGS" 4, .int "MOST_PLACES" 60, .int "MOST_ORDER" 60, .glo "Floor", .cls "Floor", .noat "Floor" "rings", .noat "Floor" "order", .noat "Floor" "polynomial", .noat "Floor" "degree", .noat "Floor" "places", .mkr "Floor", .meth "Floor" "pairing_of", .meth "Floor" "tops_of"]
def ex (K : PySem.W.Frag) : Bool := He.eqO (PySem.W.nsIn K mainGlobals "gcd") (some (some (.builtin "math.gcd"))) && He.eqO (PySem.W.nsIn K mainGlobals "lcm") (some (some (.builtin "math.lcm")))
end K09

/-! The law's end. -/
namespace K09
open PySem PySem.Spec PyProof.Rows L2
abbrev LW : PySem.W.OpenLaw := PySem.Challenge.rw_ringvoices_k09_whole_loudness_subgroups
abbrev PL : Program := LW.prog
/-! ### a law whose promise stands at the first caller alone -/
theorem law_callA {P : Program} {w : World} {K : PySem.W.Frag} {mg mb : Str → Option Value} {CX : CXT} {fa a : Addr} {fd : FuncData} {x : Str} {sp : Sp} {s₁ : Shared} {vs : List Value} {ns : List Int}
    (KX : K.In s₁.heap) (hns : s₁.heap.Ns mainGlobals mg) (hb : s₁.heap.Ns builtinsNs mb) (hbb : ∀ x : Str, x ≠ "__name__" → mb x = bootBuiltins x) (hlim : s₁.heap.NoLimit) (hg : s₁.gens = #[])
    (ha : s₁.heap.get? a = some { cls := .type "list", data := .seq vs.toArray }) (hi : IntsAre vs ns) (hl : ns.length ≤ sizeLine)
    (F : ∀ base : Heap, K.In base → base.Ns mainGlobals mg → ∀ (s : Shared) (H : Hp) (args : Args) (us : List Value) (vs : List V) (Q : VK) (E : XK), Env0 P w K mg base callerA [] s H → BindsTo s fd args ([x].zip us) → Vals vs us → sp vs H Q E → codeAny (model P w) callerA (.call (.ref fa) args) (CR CX [] P w H s Q E) s) (hbind : ∀ (s : Shared) (u : Value), BindsTo s fd ⟨[u], []⟩ [(x, u)])
    (hsp : ∀ H : Hp, Only H → SqL K H a (ns.map V.int) → sp [.ref a] H (fun v _ => v = .bl true) fun _ _ _ => False)
    (hCX : ∀ H e s', CX [] H s₁ (fun _ _ _ => False) e s' → False) :
    codeAny (model P w) callerA (.call (.ref fa) ⟨[.ref a], []⟩) (fun r s' => r = .ok (.ret (.bool true)) ∧ OldK s₁.heap s'.heap ∧ s'.os = s₁.os ∧ AllBare s'.gens) s₁ := by
  have rv := vals_ints hi
  have lenV := hi.length
  -- from an abstract heap in which nothing but the script may be tracked
  have core : ∀ H : Hp, Only H → SqL K H a (ns.map V.int) → HOk P w H s₁.heap → (∀ b, H b ≠ none → b = a) → (H a ≠ none → K.lookup a = none) →
      codeAny (model P w) callerA (.call (.ref fa) ⟨[.ref a], []⟩) (fun r s' => r = .ok (.ret (.bool true)) ∧ OldK s₁.heap s'.heap ∧ s'.os = s₁.os ∧ AllBare s'.gens) s₁ := by
    intro H hO hS hok hA hK
    have base_of : ∀ {b : Addr} {o : Obj}, s₁.heap.get? b = some o → H b = none → (hidT s₁.heap H).get? b = some o := fun e n => hidT_get e n
    have noA : ∀ {b : Addr} {o : Obj} {es : Array DictEntry} {ep : Nat}, s₁.heap.get? b = some o → o.data = .dict es ep → H b = none := fun {b o es ep} e d => by
      cases q : H b with
      | none => rfl
      | some u =>
        have e' : b = a := hA b (by rw [q]; simp)
        subst e'
        rw [ha] at e; cases e
        have d' : Data.seq vs.toArray _ = Data.dict es ep := d
        cases d'
    have nsK : ∀ {b : Addr} {m : Str → Option Value}, s₁.heap.Ns b m → (hidT s₁.heap H).Ns b m := fun {b m} ⟨o, es, ep, e, d, r⟩ => ⟨o, es, ep, base_of e (noA e d), d, r⟩
    have hKb : K.In (hidT s₁.heap H) := fun b o e => base_of (KX b o e) (by
      cases q : H b with
      | none => rfl
      | some u =>
        have e' : b = a := hA b (by rw [q]; simp)
        subst e'
        rw [hK (by rw [q]; simp)] at e; cases e)
    have hM : Mod K mg (hidT s₁.heap H) := ⟨hKb, nsK hns, ⟨mb, nsK hb, hbb⟩, let ⟨mc, h1, h2⟩ := hlim; ⟨mc, nsK h1, h2⟩⟩
    have e0 : Env0 P w K mg (hidT s₁.heap H) callerA [] s₁ H := ⟨rfl, hM, fun b o e => of_hidT e, Nat.le_of_eq (hidT_size _ _), trivial, fun b hb => absurd (show b ∈ ([] : List Addr) from hb) (by simp), hok, .of_eq hg⟩
    refine codeAny_mono (F _ hKb (nsK hns) s₁ H ⟨[.ref a], []⟩ [.ref a] [.ref a] _ _ e0 (hbind s₁ (.ref a)) (.cons rfl .nil) (hsp H hO hS)) fun r s' h => ?_
    cases r with
    | error e => exact (hCX H e s' h).elim
    | ok fl =>
      cases fl with
      | next => exact False.elim h
      | brk => exact False.elim h
      | cont => exact False.elim h
      | ret u =>
        obtain ⟨v, H', os, bare, un, hok', r', q⟩ := h
        have q' : v = .bl true := q
        subst q'
        obtain rfl : u = Value.bool true := r'
        refine ⟨rfl, OldK.of_keep fun b o e => ?_, os, bare⟩
        cases q : H b with
        | none => exact un.keep b o e q (by intro z; exact absurd (show b ∈ ([] : List Addr) from z) (by simp)) (by simp)
        | some u =>
          rcases hO b with z | ⟨ob, xs, z⟩
          · rw [q] at z; cases z
          · have z2 := un.frzs b ob _ z
            obtain ⟨e1, _⟩ := hok b _ z
            obtain ⟨e2, _⟩ := hok' b _ z2
            rw [e] at e1; cases e1
            exact e2
  cases hk : K.lookup a with
  | some o =>
    -- the script is one of the module's own objects
    have e := KX a o hk
    rw [ha] at e
    cases e
    refine core (fun _ => none) (fun _ => .inl rfl) (.inr ⟨_, vs.toArray, _, hk, rfl, rfl, rfl, by rw [List.size_toArray, lenV]; exact hl, by simpa using rv⟩) (fun b u z => by have z' : (none : Option HO) = some u := z; cases z') (fun b z => absurd rfl z) fun z => absurd rfl z
  | none =>
    refine core (fun b => if b = a then some (.frz { cls := .type "list", data := .seq vs.toArray } (.lst (ns.map V.int))) else none) (fun b => ?_) (.inl (.inr ⟨{ cls := .type "list", data := .seq vs.toArray }, if_pos rfl⟩)) (fun b u z => ?_) (fun b z => ?_) fun _ => hk
    · by_cases hb : b = a
      · exact .inr ⟨_, _, if_pos hb⟩
      · exact .inl (if_neg hb)
    · by_cases hb : b = a
      · have z' := (if_pos hb).symm.trans z
        cases z'
        subst hb
        exact ⟨ha, by rw [List.length_map]; exact hl, vs, _, rv, ha⟩
      · have z' := (if_neg hb).symm.trans z
        cases z'
    · by_cases hb : b = a
      · exact hb
      · exact absurd (if_neg hb) z
theorem walk_ofA {l : PySem.W.OpenLaw} {n : Nat} {q : Program} {loose : List Str} {XP : (Str → Option Value) → Heap → Prop} {YP : World → Heap → Prop} {d : DefRec} {CX : CXT} {x : Str}
    (hn : l.most = some n) (hn2 : n ≤ sizeLine) (hdf : d.params.defaults = [])
    (F : ∀ (w : World) (mg : Str → Option Value) (fa : Addr) (h : Heap), YP w h → h.Ns mainGlobals mg → mg d.name = some (.ref fa) →
      ∃ (K : PySem.W.Frag) (fd : FuncData) (sp : Sp), K.In h ∧ (∀ (s : Shared) (u : Value), BindsTo s fd ⟨[u], []⟩ [(x, u)]) ∧
        (∀ (H : Hp) (a : Addr) (ns : List Int), ns.length ≤ n → Only H → SqL K H a (ns.map V.int) → sp [.ref a] H (fun v _ => v = .bl true) fun _ _ _ => False) ∧
        ∀ base : Heap, K.In base → base.Ns mainGlobals mg → ∀ (s : Shared) (H : Hp) (args : Args) (us : List Value) (vs : List V) (Q : VK) (E : XK), Env0 l.prog w K mg base callerA [] s H → BindsTo s fd args ([x].zip us) → Vals vs us → sp vs H Q E → codeAny (model l.prog w) callerA (.call (.ref fa) args) (CR CX [] l.prog w H s Q E) s)
    (hCX : ∀ (H : Hp) (s : Shared) (e : Value) (s' : Shared), CX [] H s (fun _ _ _ => False) e s' → False) :
    PySem.W.WalkO q loose XP YP l.row.toRowW d [] (fun f vs => PySem.call f vs) := by
  refine Att.attach_call hn hdf fun w s₀ s₁ mg mb fa o pm cd doc a vs ns G Y ho hd hcd hmg hobj hints hlen hg => ?_
  obtain ⟨K, fd, sp, KX, hb, hsp, hF⟩ := F w mg fa _ Y G.T.g hmg
  exact law_callA KX G.T.g G.T.b G.T.builtins G.T.nolimit hg hobj hints (Nat.le_trans hlen hn2) hF hb (fun H hO hS => hsp H a ns hlen hO hS) fun H e s' => hCX H s₁ e s'
end K09

/-! The law holds. -/
namespace K09
open PySem PySem.Spec PyProof.Rows L2
section
variable {w : World} {K : PySem.W.Frag} {mg : Str → Option Value} {base h : Heap} {f : Addr}
theorem facts (X : K.In h) (G : h.Ns mainGlobals mg) (hfa : mg ("law" : Str) = some (.ref f)) (c : He.SaysD fa fn K) (c2 : ex K = true) :
    ∃ fd : FuncData, (∀ (s : Shared) (v : Value), BindsTo s fd ⟨[v], []⟩ [("script", v)]) ∧ ∀ base : Heap, K.In base → base.Ns mainGlobals mg → ∀ (s : Shared) (H : Hp) (args : Args) (us : List Value) (vs : List V) (Q : VK) (E : XK), Env0 PL w K mg base callerA [] s H → BindsTo s fd args ((["script"] : List Str).zip us) → Vals vs us → spLaw K vs H Q E → codeAny (model PL w) callerA (.call (.ref f) args) (CR CX0 [] PL w H s Q E) s := by
  obtain ⟨d_list_places, F_list_places⟩ := c.def_ 0 (d := dGlo "list_places" sPlaces) rfl
  obtain ⟨d_common_order, F_common_order⟩ := c.def_ 1 (d := dGlo "common_order" sOrder) rfl
  obtain ⟨d_added, F_added⟩ := c.def_ 2 (d := dGlo "added" sAdd) rfl
  obtain ⟨d_repeated, F_repeated⟩ := c.def_ 3 (d := dGlo "repeated" sRep) rfl
  obtain ⟨d_paired, F_paired⟩ := c.def_ 4 (d := dGlo "paired" sPaired) rfl
  obtain ⟨d_units_of, F_units_of⟩ := c.def_ 5 (d := dGlo "units_of" sUnits) rfl
  obtain ⟨d_primes_of, F_primes_of⟩ := c.def_ 6 (d := dGlo "primes_of" sPrimes) rfl
  obtain ⟨d_polynomial_of, F_polynomial_of⟩ := c.def_ 7 (d := dGlo "polynomial_of" sPoly) rfl
  obtain ⟨d__stretched, F__stretched⟩ := c.def_ 8 (d := dGlo "_stretched" sStr) rfl
  obtain ⟨d__divided, F__divided⟩ := c.def_ 9 (d := dGlo "_divided" sDiv) rfl
  obtain ⟨d_reduced, F_reduced⟩ := c.def_ 10 (d := dGlo "reduced" sRed) rfl
  obtain ⟨d_multiplied, F_multiplied⟩ := c.def_ 11 (d := dGlo "multiplied" sMulP) rfl
  obtain ⟨d_spread, F_spread⟩ := c.def_ 12 (d := dGlo "spread" sSpread) rfl
  obtain ⟨d_exchanged_tops, F_exchanged_tops⟩ := c.def_ 13 (d := dGlo "exchanged_tops" sExT) rfl
  obtain ⟨d_lowered, F_lowered⟩ := c.def_ 14 (d := dGlo "lowered" sLow) rfl
  obtain ⟨d_is_integer, F_is_integer⟩ := c.def_ 15 (d := dGlo "is_integer" sIsInt) rfl
  obtain ⟨d_is_integers, F_is_integers⟩ := c.def_ 16 (d := dGlo "is_integers" sIsInts) rfl
  obtain ⟨d_is_ascending, F_is_ascending⟩ := c.def_ 17 (d := dGlo "is_ascending" sIsAsc) rfl
  obtain ⟨d_is_order, F_is_order⟩ := c.def_ 18 (d := dGlo "is_order" sIsOrd) rfl
  obtain ⟨d_check_order, F_check_order⟩ := c.def_ 19 (d := dGlo "check_order" sChkO) rfl
  obtain ⟨d_check_number, F_check_number⟩ := c.def_ 20 (d := dGlo "check_number" sChkN) rfl
  obtain ⟨d_is_number, F_is_number⟩ := c.def_ 21 (d := dGlo "is_number" sIsNum) rfl
  obtain ⟨d_turn, F_turn⟩ := c.def_ 22 (d := dGlo "turn" sTurn) rfl
  obtain ⟨d_plus, F_plus⟩ := c.def_ 23 (d := dGlo "plus" sPlus) rfl
  obtain ⟨d__sum, F__sum⟩ := c.def_ 24 (d := dGlo "_sum" sSumN) rfl
  obtain ⟨d_times, F_times⟩ := c.def_ 25 (d := dGlo "times" sTimes) rfl
  obtain ⟨d__product, F__product⟩ := c.def_ 26 (d := dGlo "_product" sProd) rfl
  obtain ⟨d_loudness, F_loudness⟩ := c.def_ 27 (d := dGlo "loudness" sLoud) rfl
  obtain ⟨d_lifted, F_lifted⟩ := c.def_ 28 (d := dGlo "lifted" sLifted) rfl
  obtain ⟨d_are_rings, F_are_rings⟩ := c.def_ 29 (d := dGlo "are_rings" sAre) rfl
  obtain ⟨d__size, F__size⟩ := c.def_ 30 (d := dGlo "_size" sSize) rfl
  obtain ⟨d_check_rings, F_check_rings⟩ := c.def_ 31 (d := dGlo "check_rings" sChkR) rfl
  obtain ⟨d_is_place, F_is_place⟩ := c.def_ 32 (d := dGlo "is_place" sIsPl) rfl
  obtain ⟨d_check_place, F_check_place⟩ := c.def_ 33 (d := dGlo "check_place" sChkP) rfl
  obtain ⟨d_check_lot, F_check_lot⟩ := c.def_ 34 (d := dGlo "check_lot" sChkLot) rfl
  obtain ⟨d_size_of, F_size_of⟩ := c.def_ 35 (d := dGlo "size_of" sSizeOf) rfl
  obtain ⟨d_order_of, F_order_of⟩ := c.def_ 36 (d := dGlo "order_of" sOrdOf) rfl
  obtain ⟨d_pairing, F_pairing⟩ := c.def_ 37 (d := dGlo "pairing" sPairing) rfl
  obtain ⟨d_is_lot, F_is_lot⟩ := c.def_ 38 (d := dGlo "is_lot" sIsLot) rfl
  obtain ⟨d_subgroup, F_subgroup⟩ := c.def_ 39 (d := dGlo "subgroup" sSubgroup) rfl
  obtain ⟨d_levelled, F_levelled⟩ := c.def_ 40 (d := dGlo "levelled" sLev) rfl
  obtain ⟨d_turned_sum, F_turned_sum⟩ := c.def_ 41 (d := dGlo "turned_sum" sTSum) rfl
  obtain ⟨d_voices_of, F_voices_of⟩ := c.def_ 42 (d := dGlo "voices_of" sVOf) rfl
  obtain ⟨d_is_zero, F_is_zero⟩ := c.def_ 43 (d := dGlo "is_zero" sIsZero) rfl
  obtain ⟨d_is_row, F_is_row⟩ := c.def_ 44 (d := dGlo "is_row" sIsRow) rfl
  obtain ⟨d_is_whole, F_is_whole⟩ := c.def_ 45 (d := dGlo "is_whole" sIsWhole) rfl
  obtain ⟨d_check_row, F_check_row⟩ := c.def_ 46 (d := dGlo "check_row" sChkRow) rfl
  obtain ⟨d_check_whole, F_check_whole⟩ := c.def_ 47 (d := dGlo "check_whole" sChkWhole) rfl
  obtain ⟨d_row_of, F_row_of⟩ := c.def_ 48 (d := dGlo "row_of" sRowOf) rfl
  obtain ⟨d_voice, F_voice⟩ := c.def_ 49 (d := dGlo "voice" sVoice) rfl
  obtain ⟨d_voices, F_voices⟩ := c.def_ 50 (d := dGlo "voices" sVoices) rfl
  obtain ⟨d_sounding, F_sounding⟩ := c.def_ 51 (d := dGlo "sounding" sSounding) rfl
  obtain ⟨d__places_of_some, F__places_of_some⟩ := c.def_ 52 (d := dGlo "_places_of_some" sSome) rfl
  obtain ⟨d_moved, F_moved⟩ := c.def_ 53 (d := dGlo "moved" sMoved) rfl
  obtain ⟨d__laid, F__laid⟩ := c.def_ 54 (d := dGlo "_laid" sLaid) rfl
  obtain ⟨d__law_deck, F__law_deck⟩ := c.def_ 55 (d := dGlo "_law_deck" sDeck) rfl
  obtain ⟨d__law_draw, F__law_draw⟩ := c.def_ 56 (d := dGlo "_law_draw" sDraw) rfl
  obtain ⟨d__law_pick, F__law_pick⟩ := c.def_ 57 (d := dGlo "_law_pick" sPick) rfl
  obtain ⟨d__law_gcd, F__law_gcd⟩ := c.def_ 58 (d := dGlo "_law_gcd" sLGcd) rfl
  obtain ⟨d__law_order, F__law_order⟩ := c.def_ 59 (d := dGlo "_law_order" sLOrder) rfl
  obtain ⟨d__law_places, F__law_places⟩ := c.def_ 60 (d := dGlo "_law_places" sLPlaces) rfl
  obtain ⟨d__law_ring, F__law_ring⟩ := c.def_ 61 (d := dGlo "_law_ring" sLRing) rfl
  obtain ⟨d__law_made, F__law_made⟩ := c.def_ 62 (d := dGlo "_law_made" sLMade) rfl
  obtain ⟨d__law_rings, F__law_rings⟩ := c.def_ 63 (d := dGlo "_law_rings" sLRings) rfl
  obtain ⟨d__law_number, F__law_number⟩ := c.def_ 64 (d := dGlo "_law_number" sLNumber) rfl
  obtain ⟨d__law_row, F__law_row⟩ := c.def_ 65 (d := dGlo "_law_row" sLRow) rfl
  obtain ⟨d__law_is_loudness_right, F__law_is_loudness_right⟩ := c.def_ 66 (d := dGlo "_law_is_loudness_right" sLLoud) rfl
  obtain ⟨d__law_is_beside_right, F__law_is_beside_right⟩ := c.def_ 67 (d := dGlo "_law_is_beside_right" sLBeside) rfl
  obtain ⟨d_law, F_law⟩ := c.def_ 68 (d := dGlo "law" sLaw) rfl
  obtain ⟨d_Floor___init__, F_Floor___init__⟩ := c.def_ 69 (d := dMe "__init__" "Floor.__init__" sFInit) rfl
  obtain ⟨d_Floor_pairing_of, F_Floor_pairing_of⟩ := c.def_ 70 (d := dMe "pairing_of" "Floor.pairing_of" sFPair) rfl
  obtain ⟨d_Floor_tops_of, F_Floor_tops_of⟩ := c.def_ 71 (d := dMe "tops_of" "Floor.tops_of" sFTops) rfl
  have e := hfa.symm.trans (He.glo_ok X G (c.fact 68 (f := .glo "law") rfl))
  cases e
  have b := FunD.bindsA (ps := ["script"]) F_law fun _ _ _ _ _ _ us hl => match us, hl with | [_], _ => rfl
  refine ⟨d_law, fun s v => b s [v] rfl, fun base hKb hGb s H args us vs Q E e0 hb r hsp => ?_⟩
  have B : Bl mg := fun x hx => He.free_ok X G (c.facts (f := .free x) (List.mem_append_left _ (List.mem_append_right _ (List.mem_map_of_mem hx))))
  obtain ⟨x1, x2⟩ := He.ba c2
  have gG : mg ("gcd" : Str) = some (.builtin "math.gcd") := PySem.W.mg_of X G (He.eqO_ok x1)
  have gL : mg ("lcm" : Str) = some (.builtin "math.lcm") := PySem.W.mg_of X G (He.eqO_ok x2)
  have B_any : mg ("any" : Str) = none := He.free_ok X G (c.fact 86 (f := .free "any") rfl)
  have gR : ∃ t, mg ("MOST_RINGS" : Str) = some (.int 4 t) := He.int_ok X G (c.fact 87 (f := .int "MOST_RINGS" 4) rfl)
  have gP : ∃ t, mg ("MOST_PLACES" : Str) = some (.int 60 t) := He.int_ok X G (c.fact 88 (f := .int "MOST_PLACES" 60) rfl)
  have gO : ∃ t, mg ("MOST_ORDER" : Str) = some (.int 60 t) := He.int_ok X G (c.fact 89 (f := .int "MOST_ORDER" 60) rfl)
  have T : FlT K mg (He.ga K "Floor") (He.ma K (He.ga K "Floor") "__init__") (He.ma K (He.ga K "Floor") "pairing_of") := {
    cl := He.cls_ok (c.fact 91 (f := .cls "Floor") rfl)
    aR := He.noat_ok (c.fact 92 (f := .noat "Floor" "rings") rfl)
    aO := He.noat_ok (c.fact 93 (f := .noat "Floor" "order") rfl)
    aP := He.noat_ok (c.fact 94 (f := .noat "Floor" "polynomial") rfl)
    aD := He.noat_ok (c.fact 95 (f := .noat "Floor" "degree") rfl)
    aL := He.noat_ok (c.fact 96 (f := .noat "Floor" "places") rfl)
    mkk := He.mkr_ok (c.fact 97 (f := .mkr "Floor") rfl)
    mt := He.meth_ok (c.fact 98 (f := .meth "Floor" "pairing_of") rfl)
    mgC := He.glo_ok X G (c.fact 90 (f := .glo "Floor") rfl) }
  have MT_tops_of := He.meth_ok (c.fact 99 (f := .meth "Floor" "tops_of") rfl)
  have g_list_places : mg ("list_places" : Str) = some (.ref (He.ga K "list_places")) := He.glo_ok X G (c.fact 0 (f := .glo "list_places") rfl)
  have g_common_order : mg ("common_order" : Str) = some (.ref (He.ga K "common_order")) := He.glo_ok X G (c.fact 1 (f := .glo "common_order") rfl)
  have g_added : mg ("added" : Str) = some (.ref (He.ga K "added")) := He.glo_ok X G (c.fact 2 (f := .glo "added") rfl)
  have g_repeated : mg ("repeated" : Str) = some (.ref (He.ga K "repeated")) := He.glo_ok X G (c.fact 3 (f := .glo "repeated") rfl)
  have g_paired : mg ("paired" : Str) = some (.ref (He.ga K "paired")) := He.glo_ok X G (c.fact 4 (f := .glo "paired") rfl)
  have g_units_of : mg ("units_of" : Str) = some (.ref (He.ga K "units_of")) := He.glo_ok X G (c.fact 5 (f := .glo "units_of") rfl)
  have g_primes_of : mg ("primes_of" : Str) = some (.ref (He.ga K "primes_of")) := He.glo_ok X G (c.fact 6 (f := .glo "primes_of") rfl)
  have g_polynomial_of : mg ("polynomial_of" : Str) = some (.ref (He.ga K "polynomial_of")) := He.glo_ok X G (c.fact 7 (f := .glo "polynomial_of") rfl)
  have g__stretched : mg ("_stretched" : Str) = some (.ref (He.ga K "_stretched")) := He.glo_ok X G (c.fact 8 (f := .glo "_stretched") rfl)
  have g__divided : mg ("_divided" : Str) = some (.ref (He.ga K "_divided")) := He.glo_ok X G (c.fact 9 (f := .glo "_divided") rfl)
  have g_reduced : mg ("reduced" : Str) = some (.ref (He.ga K "reduced")) := He.glo_ok X G (c.fact 10 (f := .glo "reduced") rfl)
  have g_multiplied : mg ("multiplied" : Str) = some (.ref (He.ga K "multiplied")) := He.glo_ok X G (c.fact 11 (f := .glo "multiplied") rfl)
  have g_spread : mg ("spread" : Str) = some (.ref (He.ga K "spread")) := He.glo_ok X G (c.fact 12 (f := .glo "spread") rfl)
  have g_exchanged_tops : mg ("exchanged_tops" : Str) = some (.ref (He.ga K "exchanged_tops")) := He.glo_ok X G (c.fact 13 (f := .glo "exchanged_tops") rfl)
  have g_lowered : mg ("lowered" : Str) = some (.ref (He.ga K "lowered")) := He.glo_ok X G (c.fact 14 (f := .glo "lowered") rfl)
  have g_is_integer : mg ("is_integer" : Str) = some (.ref (He.ga K "is_integer")) := He.glo_ok X G (c.fact 15 (f := .glo "is_integer") rfl)
  have g_is_integers : mg ("is_integers" : Str) = some (.ref (He.ga K "is_integers")) := He.glo_ok X G (c.fact 16 (f := .glo "is_integers") rfl)
  have g_is_ascending : mg ("is_ascending" : Str) = some (.ref (He.ga K "is_ascending")) := He.glo_ok X G (c.fact 17 (f := .glo "is_ascending") rfl)
  have g_is_order : mg ("is_order" : Str) = some (.ref (He.ga K "is_order")) := He.glo_ok X G (c.fact 18 (f := .glo "is_order") rfl)
  have g_check_order : mg ("check_order" : Str) = some (.ref (He.ga K "check_order")) := He.glo_ok X G (c.fact 19 (f := .glo "check_order") rfl)
  have g_check_number : mg ("check_number" : Str) = some (.ref (He.ga K "check_number")) := He.glo_ok X G (c.fact 20 (f := .glo "check_number") rfl)
  have g_is_number : mg ("is_number" : Str) = some (.ref (He.ga K "is_number")) := He.glo_ok X G (c.fact 21 (f := .glo "is_number") rfl)
  have g_turn : mg ("turn" : Str) = some (.ref (He.ga K "turn")) := He.glo_ok X G (c.fact 22 (f := .glo "turn") rfl)
  have g_plus : mg ("plus" : Str) = some (.ref (He.ga K "plus")) := He.glo_ok X G (c.fact 23 (f := .glo "plus") rfl)
  have g__sum : mg ("_sum" : Str) = some (.ref (He.ga K "_sum")) := He.glo_ok X G (c.fact 24 (f := .glo "_sum") rfl)
  have g_times : mg ("times" : Str) = some (.ref (He.ga K "times")) := He.glo_ok X G (c.fact 25 (f := .glo "times") rfl)
  have g__product : mg ("_product" : Str) = some (.ref (He.ga K "_product")) := He.glo_ok X G (c.fact 26 (f := .glo "_product") rfl)
  have g_loudness : mg ("loudness" : Str) = some (.ref (He.ga K "loudness")) := He.glo_ok X G (c.fact 27 (f := .glo "loudness") rfl)
  have g_lifted : mg ("lifted" : Str) = some (.ref (He.ga K "lifted")) := He.glo_ok X G (c.fact 28 (f := .glo "lifted") rfl)
  have g_are_rings : mg ("are_rings" : Str) = some (.ref (He.ga K "are_rings")) := He.glo_ok X G (c.fact 29 (f := .glo "are_rings") rfl)
  have g__size : mg ("_size" : Str) = some (.ref (He.ga K "_size")) := He.glo_ok X G (c.fact 30 (f := .glo "_size") rfl)
  have g_check_rings : mg ("check_rings" : Str) = some (.ref (He.ga K "check_rings")) := He.glo_ok X G (c.fact 31 (f := .glo "check_rings") rfl)
  have g_is_place : mg ("is_place" : Str) = some (.ref (He.ga K "is_place")) := He.glo_ok X G (c.fact 32 (f := .glo "is_place") rfl)
  have g_check_place : mg ("check_place" : Str) = some (.ref (He.ga K "check_place")) := He.glo_ok X G (c.fact 33 (f := .glo "check_place") rfl)
  have g_check_lot : mg ("check_lot" : Str) = some (.ref (He.ga K "check_lot")) := He.glo_ok X G (c.fact 34 (f := .glo "check_lot") rfl)
  have g_size_of : mg ("size_of" : Str) = some (.ref (He.ga K "size_of")) := He.glo_ok X G (c.fact 35 (f := .glo "size_of") rfl)
  have g_order_of : mg ("order_of" : Str) = some (.ref (He.ga K "order_of")) := He.glo_ok X G (c.fact 36 (f := .glo "order_of") rfl)
  have g_pairing : mg ("pairing" : Str) = some (.ref (He.ga K "pairing")) := He.glo_ok X G (c.fact 37 (f := .glo "pairing") rfl)
  have g_is_lot : mg ("is_lot" : Str) = some (.ref (He.ga K "is_lot")) := He.glo_ok X G (c.fact 38 (f := .glo "is_lot") rfl)
  have g_subgroup : mg ("subgroup" : Str) = some (.ref (He.ga K "subgroup")) := He.glo_ok X G (c.fact 39 (f := .glo "subgroup") rfl)
  have g_levelled : mg ("levelled" : Str) = some (.ref (He.ga K "levelled")) := He.glo_ok X G (c.fact 40 (f := .glo "levelled") rfl)
  have g_turned_sum : mg ("turned_sum" : Str) = some (.ref (He.ga K "turned_sum")) := He.glo_ok X G (c.fact 41 (f := .glo "turned_sum") rfl)
  have g_voices_of : mg ("voices_of" : Str) = some (.ref (He.ga K "voices_of")) := He.glo_ok X G (c.fact 42 (f := .glo "voices_of") rfl)
  have g_is_zero : mg ("is_zero" : Str) = some (.ref (He.ga K "is_zero")) := He.glo_ok X G (c.fact 43 (f := .glo "is_zero") rfl)
  have g_is_row : mg ("is_row" : Str) = some (.ref (He.ga K "is_row")) := He.glo_ok X G (c.fact 44 (f := .glo "is_row") rfl)
  have g_is_whole : mg ("is_whole" : Str) = some (.ref (He.ga K "is_whole")) := He.glo_ok X G (c.fact 45 (f := .glo "is_whole") rfl)
  have g_check_row : mg ("check_row" : Str) = some (.ref (He.ga K "check_row")) := He.glo_ok X G (c.fact 46 (f := .glo "check_row") rfl)
  have g_check_whole : mg ("check_whole" : Str) = some (.ref (He.ga K "check_whole")) := He.glo_ok X G (c.fact 47 (f := .glo "check_whole") rfl)
  have g_row_of : mg ("row_of" : Str) = some (.ref (He.ga K "row_of")) := He.glo_ok X G (c.fact 48 (f := .glo "row_of") rfl)
  have g_voice : mg ("voice" : Str) = some (.ref (He.ga K "voice")) := He.glo_ok X G (c.fact 49 (f := .glo "voice") rfl)
  have g_voices : mg ("voices" : Str) = some (.ref (He.ga K "voices")) := He.glo_ok X G (c.fact 50 (f := .glo "voices") rfl)
  have g_sounding : mg ("sounding" : Str) = some (.ref (He.ga K "sounding")) := He.glo_ok X G (c.fact 51 (f := .glo "sounding") rfl)
  have g__places_of_some : mg ("_places_of_some" : Str) = some (.ref (He.ga K "_places_of_some")) := He.glo_ok X G (c.fact 52 (f := .glo "_places_of_some") rfl)
  have g_moved : mg ("moved" : Str) = some (.ref (He.ga K "moved")) := He.glo_ok X G (c.fact 53 (f := .glo "moved") rfl)
  have g__laid : mg ("_laid" : Str) = some (.ref (He.ga K "_laid")) := He.glo_ok X G (c.fact 54 (f := .glo "_laid") rfl)
  have g__law_deck : mg ("_law_deck" : Str) = some (.ref (He.ga K "_law_deck")) := He.glo_ok X G (c.fact 55 (f := .glo "_law_deck") rfl)
  have g__law_draw : mg ("_law_draw" : Str) = some (.ref (He.ga K "_law_draw")) := He.glo_ok X G (c.fact 56 (f := .glo "_law_draw") rfl)
  have g__law_pick : mg ("_law_pick" : Str) = some (.ref (He.ga K "_law_pick")) := He.glo_ok X G (c.fact 57 (f := .glo "_law_pick") rfl)
  have g__law_gcd : mg ("_law_gcd" : Str) = some (.ref (He.ga K "_law_gcd")) := He.glo_ok X G (c.fact 58 (f := .glo "_law_gcd") rfl)
  have g__law_order : mg ("_law_order" : Str) = some (.ref (He.ga K "_law_order")) := He.glo_ok X G (c.fact 59 (f := .glo "_law_order") rfl)
  have g__law_places : mg ("_law_places" : Str) = some (.ref (He.ga K "_law_places")) := He.glo_ok X G (c.fact 60 (f := .glo "_law_places") rfl)
  have g__law_ring : mg ("_law_ring" : Str) = some (.ref (He.ga K "_law_ring")) := He.glo_ok X G (c.fact 61 (f := .glo "_law_ring") rfl)
  have g__law_made : mg ("_law_made" : Str) = some (.ref (He.ga K "_law_made")) := He.glo_ok X G (c.fact 62 (f := .glo "_law_made") rfl)
  have g__law_rings : mg ("_law_rings" : Str) = some (.ref (He.ga K "_law_rings")) := He.glo_ok X G (c.fact 63 (f := .glo "_law_rings") rfl)
  have g__law_number : mg ("_law_number" : Str) = some (.ref (He.ga K "_law_number")) := He.glo_ok X G (c.fact 64 (f := .glo "_law_number") rfl)
  have g__law_row : mg ("_law_row" : Str) = some (.ref (He.ga K "_law_row")) := He.glo_ok X G (c.fact 65 (f := .glo "_law_row") rfl)
  have g__law_is_loudness_right : mg ("_law_is_loudness_right" : Str) = some (.ref (He.ga K "_law_is_loudness_right")) := He.glo_ok X G (c.fact 66 (f := .glo "_law_is_loudness_right") rfl)
  have g__law_is_beside_right : mg ("_law_is_beside_right" : Str) = some (.ref (He.ga K "_law_is_beside_right")) := He.glo_ok X G (c.fact 67 (f := .glo "_law_is_beside_right") rfl)
  have G_common_order : FnOk PL w K mg base CX0 1 (He.ga K "common_order") d_common_order ["rings"] (spOrder K) := ok_order F_common_order B gL
  have G_polynomial_of : FnOk PL w K mg base CX0 2 (He.ga K "polynomial_of") d_polynomial_of ["order"] (spPoly K) := ok_poly F_polynomial_of B F_primes_of g_primes_of F__divided g__divided F__stretched g__stretched
  have G_list_places : FnOk PL w K mg base CX0 1 (He.ga K "list_places") d_list_places ["rings"] (spPlaces K) := ok_places F_list_places B
  have G_Floor___init__ : FnOk PL w K mg base CX0 3 (He.ma K (He.ga K "Floor") "__init__") d_Floor___init__ ["self", "rings"] (spFInit K (He.ga K "Floor")) := ok_fInit F_Floor___init__ B T F_common_order g_common_order G_common_order F_polynomial_of g_polynomial_of G_polynomial_of F_list_places g_list_places G_list_places
  have G_is_integers : FnOk PL w K mg base CX0 2 (He.ga K "is_integers") d_is_integers ["thing"] (spIsInts K) := ok_isInts F_is_integers B F_is_integer g_is_integer
  have G_are_rings : FnOk PL w K mg base CX0 3 (He.ga K "are_rings") d_are_rings ["thing"] (spAre K) := ok_are F_are_rings B F_is_integers g_is_integers G_is_integers F__size g__size gR gP
  have G_check_rings : FnOk PL w K mg base CX0 4 (He.ga K "check_rings") d_check_rings ["rings"] (spNon K) := ok_chkR F_check_rings F_are_rings g_are_rings G_are_rings
  have G_size_of : FnOk PL w K mg base CX0 5 (He.ga K "size_of") d_size_of ["rings"] (spSzOf K) := ok_szOf F_size_of F_check_rings g_check_rings G_check_rings F__size g__size
  have G_order_of : FnOk PL w K mg base CX0 5 (He.ga K "order_of") d_order_of ["rings"] (spOrder K) := ok_ordOf F_order_of F_check_rings g_check_rings G_check_rings F_common_order g_common_order G_common_order
  have G_is_integer : FnOk PL w K mg base CX0 1 (He.ga K "is_integer") d_is_integer ["thing"] spIsInt := ok_isInt F_is_integer B
  have G_is_order : FnOk PL w K mg base CX0 2 (He.ga K "is_order") d_is_order ["thing"] (spOrd (.bl true)) := ok_isOrd F_is_order F_is_integer g_is_integer G_is_integer gO
  have G_check_order : FnOk PL w K mg base CX0 3 (He.ga K "check_order") d_check_order ["order"] (spOrd .non) := ok_chkO F_check_order F_is_order g_is_order G_is_order
  have G_units_of : FnOk PL w K mg base CX0 1 (He.ga K "units_of") d_units_of ["order"] spUnits := ok_units F_units_of B gG
  have G_lowered : FnOk PL w K mg base CX0 1 (He.ga K "lowered") d_lowered ["tops", "bottom"] (spLow K) := ok_low F_lowered B gG
  have G_is_number : FnOk PL w K mg base CX0 4 (He.ga K "is_number") d_is_number ["order", "thing"] (spIsNum K (.bl true)) := ok_isNum F_is_number B F_check_order g_check_order G_check_order F_is_integers g_is_integers G_is_integers F_is_integer g_is_integer G_is_integer F_units_of g_units_of G_units_of F_lowered g_lowered G_lowered
  have G_is_row : FnOk PL w K mg base CX0 6 (He.ga K "is_row") d_is_row ["rings", "thing"] (spRow K (.bl true)) := ok_isRow F_is_row B F_size_of g_size_of G_size_of F_order_of g_order_of G_order_of F_is_number g_is_number G_is_number
  have G_check_row : FnOk PL w K mg base CX0 7 (He.ga K "check_row") d_check_row ["rings", "row"] (spRow K .non) := ok_chkRow F_check_row F_is_row g_is_row G_is_row
  have G_levelled : FnOk PL w K mg base CX0 1 (He.ga K "levelled") d_levelled ["numbers"] (spLev K) := ok_lev F_levelled B gL
  have G_Floor_pairing_of : FnOk PL w K mg base CX0 2 (He.ma K (He.ga K "Floor") "pairing_of") d_Floor_pairing_of ["self", "place", "label"] (spFPair K (He.ga K "Floor")) := ok_fPair F_Floor_pairing_of B T F_paired g_paired
  have G_reduced : FnOk PL w K mg base CX0 2 (He.ga K "reduced") d_reduced ["items", "polynomial"] (spRed K) := ok_red F_reduced B F__divided g__divided
  have G_turned_sum : FnOk PL w K mg base CX0 3 (He.ga K "turned_sum") d_turned_sum ["floor", "items", "places", "label", "sign"] (spTS K (He.ga K "Floor")) := ok_tsum F_turned_sum B T F_Floor_pairing_of G_Floor_pairing_of F_reduced g_reduced G_reduced
  have G_voices_of : FnOk PL w K mg base CX0 4 (He.ga K "voices_of") d_voices_of ["floor", "row"] (spVO K (He.ga K "Floor")) := ok_vof F_voices_of B T F_levelled g_levelled G_levelled F_turned_sum g_turned_sum G_turned_sum F_lowered g_lowered G_lowered
  have G_voices : FnOk PL w K mg base CX0 8 (He.ga K "voices") d_voices ["rings", "row"] (spVoices K) := ok_voices F_voices T F_Floor___init__ G_Floor___init__ F_check_row g_check_row G_check_row F_voices_of g_voices_of G_voices_of
  have G_Floor_tops_of : FnOk PL w K mg base CX0 1 (He.ma K (He.ga K "Floor") "tops_of") d_Floor_tops_of ["self", "whole"] (spTopsOf K (He.ga K "Floor")) := ok_topsOf F_Floor_tops_of T T.aD
  have G_is_whole : FnOk PL w K mg base CX0 6 (He.ga K "is_whole") d_is_whole ["rings", "thing"] (spWhole K (.bl true)) := ok_isWhole F_is_whole B F_size_of g_size_of G_size_of F_is_integers g_is_integers G_is_integers
  have G_check_whole : FnOk PL w K mg base CX0 7 (He.ga K "check_whole") d_check_whole ["rings", "whole"] (spWhole K .non) := ok_chkWhole F_check_whole F_is_whole g_is_whole G_is_whole
  have G_row_of : FnOk PL w K mg base CX0 8 (He.ga K "row_of") d_row_of ["rings", "whole"] (spRO K) := ok_rowOf F_row_of B T MT_tops_of F_Floor___init__ G_Floor___init__ F_Floor_tops_of G_Floor_tops_of F_check_whole g_check_whole G_check_whole
  have G_is_zero : FnOk PL w K mg base CX0 1 (He.ga K "is_zero") d_is_zero ["number"] (spZero K) := ok_zero F_is_zero B_any
  have G__places_of_some : FnOk PL w K mg base CX0 2 (He.ga K "_places_of_some") d__places_of_some ["floor", "row"] (spSome K (He.ga K "Floor")) := ok_some F__places_of_some B T F_is_zero g_is_zero G_is_zero
  have G_sounding : FnOk PL w K mg base CX0 8 (He.ga K "sounding") d_sounding ["rings", "row"] (spSnd K) := ok_sounding F_sounding T F_Floor___init__ G_Floor___init__ F_check_row g_check_row G_check_row F__places_of_some g__places_of_some G__places_of_some F_voices_of g_voices_of G_voices_of
  have G_is_place : FnOk PL w K mg base CX0 3 (He.ga K "is_place") d_is_place ["rings", "thing"] (spIsPl K) := ok_isPl F_is_place B F_is_integers g_is_integers G_is_integers
  have G_check_place : FnOk PL w K mg base CX0 5 (He.ga K "check_place") d_check_place ["rings", "place"] (spChkP K) := ok_chkP F_check_place F_check_rings g_check_rings G_check_rings F_is_place g_is_place G_is_place
  have G_added : FnOk PL w K mg base CX0 1 (He.ga K "added") d_added ["rings", "one", "other"] (spAdd K) := ok_add F_added B
  have G__laid : FnOk PL w K mg base CX0 2 (He.ga K "_laid") d__laid ["floor", "row", "places"] (spLaid K (He.ga K "Floor")) := ok_laid F__laid B T
  have G_moved : FnOk PL w K mg base CX0 8 (He.ga K "moved") d_moved ["rings", "row", "place"] (spMoved K) := ok_moved F_moved B T F_Floor___init__ G_Floor___init__ F_check_row g_check_row G_check_row F_check_place g_check_place G_check_place F_added g_added G_added F__laid g__laid G__laid
  have G_is_ascending : FnOk PL w K mg base CX0 1 (He.ga K "is_ascending") d_is_ascending ["items"] (spAsc K) := ok_asc F_is_ascending B
  have G_is_lot : FnOk PL w K mg base CX0 5 (He.ga K "is_lot") d_is_lot ["rings", "thing"] (spIsLot K (.bl true)) := ok_isLot F_is_lot B F_check_rings g_check_rings G_check_rings F_is_place g_is_place G_is_place F_is_ascending g_is_ascending G_is_ascending
  have G_check_lot : FnOk PL w K mg base CX0 6 (He.ga K "check_lot") d_check_lot ["rings", "places"] (spIsLot K .non) := ok_chkLot F_check_lot F_is_lot g_is_lot G_is_lot
  have G_repeated : FnOk PL w K mg base CX0 1 (He.ga K "repeated") d_repeated ["rings", "place", "many"] (spRep K) := ok_rep F_repeated B
  have G_subgroup : FnOk PL w K mg base CX0 7 (He.ga K "subgroup") d_subgroup ["rings", "places"] (spSub K) := ok_sub F_subgroup B F_check_lot g_check_lot G_check_lot F_order_of g_order_of G_order_of F_repeated g_repeated G_repeated F_added g_added G_added
  have G_pairing : FnOk PL w K mg base CX0 6 (He.ga K "pairing") d_pairing ["rings", "place", "label"] (spPairing K) := ok_pairing F_pairing B F_check_place g_check_place G_check_place F_order_of g_order_of G_order_of F_paired g_paired
  have G_check_number : FnOk PL w K mg base CX0 5 (He.ga K "check_number") d_check_number ["order", "number"] (spChkN K) := ok_chkN F_check_number F_is_number g_is_number G_is_number
  have G_multiplied : FnOk PL w K mg base CX0 3 (He.ga K "multiplied") d_multiplied ["ones", "others", "polynomial"] (spMulP K) := ok_mulP F_multiplied B F_reduced g_reduced G_reduced
  have G__product : FnOk PL w K mg base CX0 4 (He.ga K "_product") d__product ["order", "one", "other"] (spProd K) := ok_prod F__product F_multiplied g_multiplied G_multiplied F_polynomial_of g_polynomial_of G_polynomial_of F_lowered g_lowered G_lowered
  have G_times : FnOk PL w K mg base CX0 6 (He.ga K "times") d_times ["order", "one", "other"] (spTimes K) := ok_times F_times F_check_number g_check_number G_check_number F__product g__product G__product
  have G_turn : FnOk PL w K mg base CX0 4 (He.ga K "turn") d_turn ["order", "power"] (spTurn K) := ok_turn F_turn F_check_order g_check_order G_check_order F_polynomial_of g_polynomial_of G_polynomial_of F_reduced g_reduced G_reduced
  have G__law_deck : FnOk PL w K mg base CX0 1 (He.ga K "_law_deck") d__law_deck ["script"] (spDeck K) := ok_deck F__law_deck B
  have G__law_pick : FnOk PL w K mg base CX0 2 (He.ga K "_law_pick") d__law_pick ["deck", "some"] (spPick K) := ok_pick F__law_pick F__law_draw g__law_draw B
  have G__law_rings : FnOk PL w K mg base CX0 3 (He.ga K "_law_rings") d__law_rings ["deck", "most"] (spLRings K) := ok_lRings F__law_rings F__law_pick g__law_pick G__law_pick
  have G__law_places : FnOk PL w K mg base CX0 1 (He.ga K "_law_places") d__law_places ["rings"] (spLPl K) := ok_lPl F__law_places B
  have G__law_draw : FnOk PL w K mg base CX0 1 (He.ga K "_law_draw") d__law_draw ["deck", "many"] spDraw := ok_draw F__law_draw B
  have G__law_gcd : FnOk PL w K mg base CX0 1 (He.ga K "_law_gcd") d__law_gcd ["one", "other"] spGcd := ok_gcd F__law_gcd B
  have G__law_order : FnOk PL w K mg base CX0 2 (He.ga K "_law_order") d__law_order ["rings"] (spLOrder K) := ok_lOrder F__law_order F__law_gcd g__law_gcd G__law_gcd
  have G__law_ring : FnOk PL w K mg base CX0 1 (He.ga K "_law_ring") d__law_ring ["e"] (spLRing K) := ok_lRing F__law_ring B
  have G__law_made : FnOk PL w K mg base CX0 2 (He.ga K "_law_made") d__law_made ["ring", "sums", "bottom"] (spLMade K) := ok_lMade F__law_made B F__law_gcd g__law_gcd G__law_gcd
  have G__law_number : FnOk PL w K mg base CX0 3 (He.ga K "_law_number") d__law_number ["deck", "ring", "size"] (spLNumber K) := ok_lNumber F__law_number B F__law_draw g__law_draw G__law_draw F__law_made g__law_made G__law_made
  have G__law_row : FnOk PL w K mg base CX0 4 (He.ga K "_law_row") d__law_row ["deck", "ring", "n"] (spLRow K) := ok_lRow F__law_row B F__law_draw g__law_draw G__law_draw F__law_made g__law_made G__law_made F__law_number g__law_number G__law_number
  have G__sum : FnOk PL w K mg base CX0 2 (He.ga K "_sum") d__sum ["one", "other", "sign"] (spSumN K) := ok_sumN F__sum B F_lowered g_lowered G_lowered
  have G_plus : FnOk PL w K mg base CX0 6 (He.ga K "plus") d_plus ["order", "one", "other"] (spPlus K) := ok_plus F_plus F_check_number g_check_number G_check_number F__sum g__sum G__sum
  have G_exchanged_tops : FnOk PL w K mg base CX0 3 (He.ga K "exchanged_tops") d_exchanged_tops ["tops", "order", "j", "polynomial"] (spExT K) := ok_exT F_exchanged_tops B F_spread g_spread F_reduced g_reduced G_reduced
  have G_loudness : FnOk PL w K mg base CX0 6 (He.ga K "loudness") d_loudness ["order", "number"] (spLoud K) := ok_loud F_loudness F_check_number g_check_number G_check_number F__product g__product G__product F_exchanged_tops g_exchanged_tops G_exchanged_tops F_polynomial_of g_polynomial_of G_polynomial_of
  have G__law_is_loudness_right : FnOkG PL w K mg base CX0 8 (He.ga K "_law_is_loudness_right") d__law_is_loudness_right ["e", "n", "ring", "row", "told"] (spLL K) := ok_lLoud F__law_is_loudness_right B F__law_made g__law_made G__law_made F_plus g_plus G_plus F_loudness g_loudness G_loudness F_times g_times G_times
  have G_voice : FnOk PL w K mg base CX0 8 (He.ga K "voice") d_voice ["rings", "row", "label"] (spVoice K) := ok_voice F_voice T F_Floor___init__ G_Floor___init__ F_check_row g_check_row G_check_row F_check_place g_check_place G_check_place F_levelled g_levelled G_levelled F_turned_sum g_turned_sum G_turned_sum F_lowered g_lowered G_lowered
  have G_spread : FnOk PL w K mg base CX0 1 (He.ga K "spread") d_spread ["tops", "many", "step"] (spSpread K) := ok_spread F_spread B
  have G_lifted : FnOk PL w K mg base CX0 6 (He.ga K "lifted") d_lifted ["order", "number", "other"] (spLift K) := ok_lift F_lifted F_check_number g_check_number G_check_number F_is_order g_is_order G_is_order F_spread g_spread G_spread F_polynomial_of g_polynomial_of G_polynomial_of F_reduced g_reduced G_reduced F_lowered g_lowered G_lowered
  have ZB : FsB PL w K mg base := {
    f_voices := ⟨(He.ga K "voices"), d_voices, F_voices, g_voices, G_voices, F_voices.bindsN fun _ _ _ _ _ _ us hl => match us, hl with | [_, _], _ => rfl⟩
    f_voice := ⟨(He.ga K "voice"), d_voice, F_voice, g_voice, G_voice, F_voice.bindsN fun _ _ _ _ _ _ us hl => match us, hl with | [_, _, _], _ => rfl⟩
    f_row_of := ⟨(He.ga K "row_of"), d_row_of, F_row_of, g_row_of, G_row_of, F_row_of.bindsN fun _ _ _ _ _ _ us hl => match us, hl with | [_, _], _ => rfl⟩
    f_lifted := ⟨(He.ga K "lifted"), d_lifted, F_lifted, g_lifted, G_lifted, F_lifted.bindsN fun _ _ _ _ _ _ us hl => match us, hl with | [_, _, _], _ => rfl⟩
    f_plus := ⟨(He.ga K "plus"), d_plus, F_plus, g_plus, G_plus, F_plus.bindsN fun _ _ _ _ _ _ us hl => match us, hl with | [_, _, _], _ => rfl⟩
    f_times := ⟨(He.ga K "times"), d_times, F_times, g_times, G_times, F_times.bindsN fun _ _ _ _ _ _ us hl => match us, hl with | [_, _, _], _ => rfl⟩
    f_turn := ⟨(He.ga K "turn"), d_turn, F_turn, g_turn, G_turn, F_turn.bindsN fun _ _ _ _ _ _ us hl => match us, hl with | [_, _], _ => rfl⟩
    f_l_draw := ⟨(He.ga K "_law_draw"), d__law_draw, F__law_draw, g__law_draw, G__law_draw, F__law_draw.bindsN fun _ _ _ _ _ _ us hl => match us, hl with | [_, _], _ => rfl⟩
    f_l_order := ⟨(He.ga K "_law_order"), d__law_order, F__law_order, g__law_order, G__law_order, F__law_order.bindsN fun _ _ _ _ _ _ us hl => match us, hl with | [_], _ => rfl⟩
    f_l_ring := ⟨(He.ga K "_law_ring"), d__law_ring, F__law_ring, g__law_ring, G__law_ring, F__law_ring.bindsN fun _ _ _ _ _ _ us hl => match us, hl with | [_], _ => rfl⟩
    f_l_made := ⟨(He.ga K "_law_made"), d__law_made, F__law_made, g__law_made, G__law_made, F__law_made.bindsN fun _ _ _ _ _ _ us hl => match us, hl with | [_, _, _], _ => rfl⟩ }
  have G__law_is_beside_right : FnOkG PL w K mg base CX0 9 (He.ga K "_law_is_beside_right") d__law_is_beside_right ["deck", "one", "other"] (spLB K) := ok_lBeside F__law_is_beside_right B ZB
  have Z : Fs PL w K mg base := {
    f_voices := ⟨(He.ga K "voices"), d_voices, F_voices, g_voices, G_voices, F_voices.bindsN fun _ _ _ _ _ _ us hl => match us, hl with | [_, _], _ => rfl⟩
    f_row_of := ⟨(He.ga K "row_of"), d_row_of, F_row_of, g_row_of, G_row_of, F_row_of.bindsN fun _ _ _ _ _ _ us hl => match us, hl with | [_, _], _ => rfl⟩
    f_sounding := ⟨(He.ga K "sounding"), d_sounding, F_sounding, g_sounding, G_sounding, F_sounding.bindsN fun _ _ _ _ _ _ us hl => match us, hl with | [_, _], _ => rfl⟩
    f_moved := ⟨(He.ga K "moved"), d_moved, F_moved, g_moved, G_moved, F_moved.bindsN fun _ _ _ _ _ _ us hl => match us, hl with | [_, _, _], _ => rfl⟩
    f_subgroup := ⟨(He.ga K "subgroup"), d_subgroup, F_subgroup, g_subgroup, G_subgroup, F_subgroup.bindsN fun _ _ _ _ _ _ us hl => match us, hl with | [_, _], _ => rfl⟩
    f_pairing := ⟨(He.ga K "pairing"), d_pairing, F_pairing, g_pairing, G_pairing, F_pairing.bindsN fun _ _ _ _ _ _ us hl => match us, hl with | [_, _, _], _ => rfl⟩
    f_times := ⟨(He.ga K "times"), d_times, F_times, g_times, G_times, F_times.bindsN fun _ _ _ _ _ _ us hl => match us, hl with | [_, _, _], _ => rfl⟩
    f_turn := ⟨(He.ga K "turn"), d_turn, F_turn, g_turn, G_turn, F_turn.bindsN fun _ _ _ _ _ _ us hl => match us, hl with | [_, _], _ => rfl⟩
    f_l_deck := ⟨(He.ga K "_law_deck"), d__law_deck, F__law_deck, g__law_deck, G__law_deck, F__law_deck.bindsN fun _ _ _ _ _ _ us hl => match us, hl with | [_], _ => rfl⟩
    f_l_rings := ⟨(He.ga K "_law_rings"), d__law_rings, F__law_rings, g__law_rings, G__law_rings, F__law_rings.bindsN fun _ _ _ _ _ _ us hl => match us, hl with | [_, _], _ => rfl⟩
    f_l_pick := ⟨(He.ga K "_law_pick"), d__law_pick, F__law_pick, g__law_pick, G__law_pick, F__law_pick.bindsN fun _ _ _ _ _ _ us hl => match us, hl with | [_, _], _ => rfl⟩
    f_l_places := ⟨(He.ga K "_law_places"), d__law_places, F__law_places, g__law_places, G__law_places, F__law_places.bindsN fun _ _ _ _ _ _ us hl => match us, hl with | [_], _ => rfl⟩
    f_l_draw := ⟨(He.ga K "_law_draw"), d__law_draw, F__law_draw, g__law_draw, G__law_draw, F__law_draw.bindsN fun _ _ _ _ _ _ us hl => match us, hl with | [_, _], _ => rfl⟩
    f_l_order := ⟨(He.ga K "_law_order"), d__law_order, F__law_order, g__law_order, G__law_order, F__law_order.bindsN fun _ _ _ _ _ _ us hl => match us, hl with | [_], _ => rfl⟩
    f_l_ring := ⟨(He.ga K "_law_ring"), d__law_ring, F__law_ring, g__law_ring, G__law_ring, F__law_ring.bindsN fun _ _ _ _ _ _ us hl => match us, hl with | [_], _ => rfl⟩
    f_l_made := ⟨(He.ga K "_law_made"), d__law_made, F__law_made, g__law_made, G__law_made, F__law_made.bindsN fun _ _ _ _ _ _ us hl => match us, hl with | [_, _, _], _ => rfl⟩
    f_l_row := ⟨(He.ga K "_law_row"), d__law_row, F__law_row, g__law_row, G__law_row, F__law_row.bindsN fun _ _ _ _ _ _ us hl => match us, hl with | [_, _, _], _ => rfl⟩
    f_l_loud := ⟨(He.ga K "_law_is_loudness_right"), d__law_is_loudness_right, F__law_is_loudness_right, g__law_is_loudness_right, G__law_is_loudness_right, F__law_is_loudness_right.bindsN fun _ _ _ _ _ _ us hl => match us, hl with | [_, _, _, _, _], _ => rfl⟩
    f_l_beside := ⟨(He.ga K "_law_is_beside_right"), d__law_is_beside_right, F__law_is_beside_right, g__law_is_beside_right, G__law_is_beside_right, F__law_is_beside_right.bindsN fun _ _ _ _ _ _ us hl => match us, hl with | [_, _, _], _ => rfl⟩ }
  exact ok_law F_law B  Z (A := callerA) rfl ⟨rfl, by decide, by decide⟩ [] s H args us vs Q E e0 hb r hsp
end
end K09
open PySem PySem.W PySem.Calls PyProof.Rows
theorem PySem.Challenge.cw_ringvoices_k09_whole_loudness_subgroups_holds : PySem.Challenge.rw_ringvoices_k09_whole_loudness_subgroups.Holds := by
  refine K09.hd0 ?_
  refine K09.walk_ofA (l := K09.LW) (n := 63) (x := "script") (CX := L2.CX0) rfl (by decide) rfl ?F (fun _ _ _ _ z => z)
  intro w mg fa h Y G hmg0
  have KX := kIn_of Y
  have hmg : mg ("law" : PySem.Str) = some (.ref fa) := hmg0
  obtain ⟨fd, hb, hF⟩ := K09.facts (w := w) KX G hmg (by unfold He.SaysD; kernel_rfl) (by kernel_rfl)
  exact ⟨_, fd, K09.spLaw _, KX, hb, fun H a ns hl _ hS => ⟨a, ns, rfl, hS, hl, fun _ => rfl⟩, hF⟩
