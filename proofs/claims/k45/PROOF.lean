import PyProof.Rows.All
import Wide.All
import OpenK.AllK
import Wide.FinOn
import KE.KStateDown
import Lean
import HandS.ForMost
import HandS.Ends
import HandS.More
import HandS.Words
import HandS.Defaults
import HandS.Style
import HandS.Star
import HandS.Conv
import HandS.Small
import HandS.TupAny
import HandS.TupMul
import HandS.Gcd
import HandS.IsInst
import HandS.Zip
import HandS.SetBool
import HandS.TupSets
import HandS.Head0
import HandS.Head1
import HandS.Head2
import HandS.HeadEnd
import HandS.HeadHook1
import HandS.HeadHook2
import HandS.HeadHook4
import HandS.Walk
import PyProof.MinMaxWalk
import PyProof.MaxThree
import KE.GoesNew
import HandS.DictComp
import HandS.Wide
import PyProof.ReprRoads
import PyProof.ReprBulk
import PyProof.WalksMore
import PyProof.ConsumeWalk
import PyProof.ListMulRoad
import PyProof.FactsAll.tuple_2
import KE.KDictKeyed
import HandS.Deep
import KE.DataCmp
import KE.KDictDisplayH
import PySem.Challenge.RW_ringvoices_k45_whole_flat_rows
set_option Elab.async false
set_option linter.all false
set_option maxRecDepth 100000
set_option maxHeartbeats 0
/-! What the defs reckon, as plain functions. -/
namespace K45
def rgL (lo : Int) (n : Nat) : List Int := (List.range n).map fun (i : Nat) => lo + (i : Int)
theorem rgL_succ (lo : Int) (n : Nat) : rgL lo (n + 1) = rgL lo n ++ [lo + (n : Int)] := by
  unfold rgL
  rw [List.range_succ, List.map_append]
  rfl
theorem rgL_len (lo : Int) (n : Nat) : (rgL lo n).length = n := by simp [rgL]
def gcdI (a b : Int) : Int := ((Nat.gcd a.natAbs b.natAbs : Nat) : Int)
def unitsL (e : Int) : List Int := (rgL 1 e.toNat).filter fun j => decide (gcdI j e = 1)
def primesGo (n : Int) : Nat → List Int
  | 0 => []
  | i + 1 => if (decide (n % (2 + (i : Int)) = 0) && ((primesGo n i).map fun p => !decide ((2 + (i : Int)) % p = 0)).all id) = true then primesGo n i ++ [2 + (i : Int)] else primesGo n i
def primesL (n : Int) : List Int := primesGo n (n + 1 - 2).toNat
def plStep (ps : List (List Int)) (len : Int) : List (List Int) := ps.flatMap fun p => (rgL 0 len.toNat).map fun i => p ++ [i]
def placesL (rings : List Int) : List (List Int) := rings.foldl plStep [[]]
def lcmI (a b : Int) : Int := (((Nat.lcm 1 a.natAbs).lcm b.natAbs : Nat) : Int)
def ordL (rings : List Int) : Int := rings.foldl lcmI 1
def repL (rings place : List Int) (many : Int) : List Int := (List.range rings.length).map fun k => place.getD k 0 * many % rings.getD k 0
def pairGo (rings : List Int) (e : Int) (place label : List Int) : Nat → Int
  | 0 => 0
  | k + 1 => pairGo rings e place label k + place.getD k 0 * label.getD k 0 * (e / rings.getD k 0)
def pairL (rings : List Int) (e : Int) (place label : List Int) : Int := pairGo rings e place label rings.length % e
def strN (items : List Int) (by_ : Nat) : Nat → List Int
  | 0 => List.replicate ((items.length - 1) * by_ + 1) 0
  | i + 1 => (strN items by_ i).set (i * by_) (items.getD i 0)
def strL (items : List Int) (by_ : Nat) : List Int := strN items by_ items.length
def subN (h : Int) (dv : List Int) (at_ : Nat) (rest : List Int) : Nat → List Int
  | 0 => rest
  | k + 1 => (subN h dv at_ rest k).set (at_ + k) ((subN h dv at_ rest k).getD (at_ + k) 0 - h * dv.getD k 0)
def divStep (deg : Nat) (dv rest : List Int) : List Int := subN (rest.getLastD 0) dv (rest.length - 1 - deg) rest.dropLast deg
def divGo (deg : Nat) (dv : List Int) : Nat → List Int → List Int → List Int × List Int
  | 0, rest, quo => (quo, rest)
  | n + 1, rest, quo => divGo deg dv n (divStep deg dv rest) (quo ++ [rest.getLastD 0])
def divL (items dv : List Int) : List Int × List Int :=
  let r := divGo (dv.length - 1) dv (items.length - (dv.length - 1)) items []
  (r.1.reverse, r.2)
def redL (items poly : List Int) : List Int := (divL items poly).2 ++ List.replicate (poly.length - 1 - (divL items poly).2.length) 0
def polyStep (s : List Int × Int) (p : Int) : List Int × Int := ((divL (strL s.1 p.toNat) s.1).1, s.2 / p)
def polyL (e : Int) : List Int :=
  let s := (primesL e).foldl polyStep ([-1, 1], e)
  strL s.1 s.2.toNat
def cntL (rings : List Int) (e : Int) (place : List Int) (ps : List (List Int)) : List Int :=
  (List.range e.toNat).map fun (i : Nat) => ((ps.countP fun q => decide (pairL rings e place q = (i : Int)) : Nat) : Int)
/-- the class of a label: those of all places that are the label taken j times -/
def kinS (rings : List Int) (label : List Int) : List (List Int) := (unitsL (ordL rings)).map fun j => repL rings label j
def canL (rings : List Int) (label : List Int) : List (List Int) := (placesL rings).filter fun q => decide (q ∈ kinS rings label)
def csL (rings : List Int) (e : Int) (poly : List Int) (ps : List (List Int)) (place : List Int) : Int := (redL (cntL rings e place ps) poly).getD 0 0
/-! ### the law's own -/
def signGo : List Int → Int → Int → Int
  | [], f, _ => f
  | p :: ps, f, left => if left % p = 0 then (if (left / p) % p = 0 then 0 else signGo ps (-f) (left / p)) else signGo ps f left
def signL (m : Int) : Int := signGo [2, 3, 5, 7, 11, 13, 17, 19, 23, 29, 31, 37, 41, 43, 47, 53, 59] 1 m
def ordGo (rings label : List Int) : Int :=
  (label.zip rings).foldl (fun m xl => let far := xl.2 / gcdI xl.2 xl.1; m * far / gcdI m far) 1
def ramL (m p q : Int) : Int := -- m, the pairing, e / m
  let gap := gcdI m (p / q)
  (((rgL 1 gap.toNat).filter fun d => decide (gap % d = 0)).map fun d => d * signL (m / d)).sum
def dueL (rings : List Int) (e : Int) (label place : List Int) : Int := ramL (ordGo rings label) (pairL rings e place label) (e / ordGo rings label)
def RR : List (List Int) := [[2], [3], [4], [5], [6], [2, 2], [2, 3], [7], [8], [2, 4], [3, 3], [2, 2, 2], [9], [10], [12], [2, 6], [3, 4], [4, 4], [16], [2, 2, 3], [2, 8], [2, 2, 2, 2], [15], [3, 5], [13], [11]]
def repsGo (rings : List Int) : List (List Int) → List (List Int) → List (List Int) → List (List Int)
  | [], _, out => out
  | l :: ls, told, out => if decide (l ∈ told) = true then repsGo rings ls told out else repsGo rings ls (told ++ canL rings l) (out ++ [l])
def repsL (rings : List Int) : List (List Int) := repsGo rings (placesL rings) [] []
end K45

/-! What the defs reckon with numbers, as plain functions. -/
namespace K45
def ER : List Int := [2, 3, 4, 5, 6, 7, 8, 9, 10, 12, 16, 15, 13, 11]
abbrev Num := List Int × Int
def lowC (tops : List Int) (b : Int) : Int := tops.foldl gcdI b
def lowL (tops : List Int) (b : Int) : Num := (tops.map fun t => t / lowC tops b, b / lowC tops b)
def levB (ns : List Num) : Int := ns.foldl (fun b n => lcmI b n.2) 1
def levT (ns : List Num) : List (List Int) := ns.map fun n => n.1.map fun t => t * (levB ns / n.2)
def stepT (e : Int) (tot : List Int) (j v : Int) : List Int := tot.set (j % e).toNat (tot.getD (j % e).toNat 0 + v)
def addN (e p : Int) (tops : List Int) (tot : List Int) : Nat → List Int
  | 0 => tot
  | k + 1 => stepT e (addN e p tops tot k) (p + (k : Int)) (tops.getD k 0)
def tsGo (r : List Int) (e sg : Int) (label : List Int) (items : List (List Int)) : Nat → List Int
  | 0 => List.replicate e.toNat 0
  | i + 1 => addN e (sg * pairL r e ((placesL r).getD i []) label) (items.getD i []) (tsGo r e sg label items i) (items.getD i []).length
def tsL (r : List Int) (sg : Int) (label : List Int) (items : List (List Int)) : List Int := redL (tsGo r (ordL r) sg label items items.length) (polyL (ordL r))
def voL (r : List Int) (ns : List Num) : List Num := (placesL r).map fun l => lowL (tsL r 1 l (levT ns)) (levB ns)
def mulR (one : Int) (i : Nat) (others tot : List Int) : Nat → List Int
  | 0 => tot
  | k + 1 => (mulR one i others tot k).set (i + k) ((mulR one i others tot k).getD (i + k) 0 + one * others.getD k 0)
def mulGo (ones others : List Int) : Nat → List Int
  | 0 => List.replicate (ones.length + others.length - 1) 0
  | i + 1 => mulR (ones.getD i 0) i others (mulGo ones others i) others.length
def mulL (ones others dv : List Int) : List Int := redL (mulGo ones others ones.length) dv
def prodL (e : Int) (a b : Num) : Num := lowL (mulL a.1 b.1 (polyL e)) (a.2 * b.2)
def turnL (e p : Int) : Num := (redL (List.replicate (p % e).toNat 0 ++ [1]) (polyL e), 1)
def sumT (a b : Num) (sg : Int) : List Int := (List.range a.1.length).map fun k => a.1.getD k 0 * b.2 + sg * b.1.getD k 0 * a.2
def sumN (a b : Num) (sg : Int) : Num := lowL (sumT a b sg) (a.2 * b.2)
def rbL (r : List Int) (ns : List Num) : List Num := (placesL r).map fun l => lowL (tsL r (-1) l (levT ns)) (levB ns * ((placesL r).length : Nat))
def someN (ns : List Int) : Bool := ns.any fun n => n != 0
def filL (r : List Int) (ns : List Num) (i : Nat) : List (List Int) := (((placesL r).zip ns).take i).filterMap fun pn => if someN pn.2.1 = true then some pn.1 else none
def notWh (n : Num) : Bool := (!decide (n.2 = 1)) || someN (n.1.drop 1)
def whN (r : List Int) (x : Int) : Num := (x :: List.replicate ((polyL (ordL r)).length - 2) 0, 1)
def rofL (r xs : List Int) : List Num := xs.map (whN r)
def sizeL (r : List Int) : Int := r.foldl (fun a b => a * b) 1
structure NumOk (e : Int) (n : Num) : Prop where
  len : n.1.length = (unitsL e).length
  pos : 1 ≤ n.2
  big : n.2 ≤ 1000
  low : lowL n.1 n.2 = n
structure RowOk (r : List Int) (ns : List Num) : Prop where
  len : ns.length = (placesL r).length
  item : ∀ n ∈ ns, 1 ≤ n.2 ∧ n.2 ≤ 1000 ∧ n.1.length ≤ 1000
  lev : ∀ i ≤ ns.length, 1 ≤ levB (ns.take i) ∧ levB (ns.take i) ≤ 1000
structure RowG (r : List Int) (ns : List Num) : Prop where
  ok : RowOk r ns
  num : ∀ n ∈ ns, NumOk (ordL r) n
end K45

/-! Sums; the remainder by a polynomial, item by item. -/
namespace K45
def sm : Nat → (Nat → Int) → Int
  | 0, _ => 0
  | n + 1, f => sm n f + f n
theorem sm_congr {f g : Nat → Int} : ∀ {n : Nat}, (∀ i, i < n → f i = g i) → sm n f = sm n g
  | 0, _ => rfl
  | n + 1, h => by
    show sm n f + f n = sm n g + g n
    rw [sm_congr fun i hi => h i (by omega), h n (by omega)]
theorem sm_add {f g : Nat → Int} : ∀ n : Nat, sm n (fun i => f i + g i) = sm n f + sm n g
  | 0 => rfl
  | n + 1 => by
    show sm n (fun i => f i + g i) + (f n + g n) = sm n f + f n + (sm n g + g n)
    rw [sm_add n]
    omega
theorem sm_mul {f : Nat → Int} (c : Int) : ∀ n : Nat, sm n (fun i => c * f i) = c * sm n f
  | 0 => by show (0 : Int) = c * 0; omega
  | n + 1 => by
    show sm n (fun i => c * f i) + c * f n = c * (sm n f + f n)
    rw [sm_mul c n, Int.mul_add]
theorem sm_mulR {f : Nat → Int} (c : Int) (n : Nat) : sm n (fun i => f i * c) = sm n f * c := by
  rw [Int.mul_comm, ← sm_mul]
  exact sm_congr fun i _ => Int.mul_comm _ _
theorem sm_neg {f : Nat → Int} : ∀ n : Nat, sm n (fun i => - f i) = - sm n f
  | 0 => rfl
  | n + 1 => by
    show sm n (fun i => - f i) + - f n = - (sm n f + f n)
    rw [sm_neg n]
    omega
theorem sm_zero : ∀ n : Nat, sm n (fun _ => 0) = 0
  | 0 => rfl
  | n + 1 => by
    show sm n (fun _ => 0) + 0 = 0
    rw [sm_zero n]
    rfl
theorem sm_swap {f : Nat → Nat → Int} (m : Nat) : ∀ n : Nat, sm n (fun i => sm m (fun j => f i j)) = sm m (fun j => sm n (fun i => f i j))
  | 0 => (sm_zero m).symm
  | n + 1 => by
    show sm n (fun i => sm m (fun j => f i j)) + sm m (fun j => f n j) = sm m (fun j => sm n (fun i => f i j) + f n j)
    rw [sm_swap m n, sm_add]
theorem sm_delta {f : Nat → Int} {i0 : Nat} : ∀ {n : Nat}, sm n (fun i => if i = i0 then f i else 0) = if i0 < n then f i0 else 0
  | 0 => by simp [sm]
  | n + 1 => by
    show sm n (fun i => if i = i0 then f i else 0) + (if n = i0 then f n else 0) = _
    rw [sm_delta]
    by_cases h1 : n = i0
    · subst h1
      simp
    · by_cases h2 : i0 < n
      · rw [if_pos h2, if_neg h1, if_pos (by omega)]
        omega
      · rw [if_neg h2, if_neg h1, if_neg (by omega)]
        rfl
/-- the remainder of the powers -/
def unitV (deg j : Nat) : List Int := (List.range deg).map fun i => if i = j then 1 else 0
def cvj (deg : Nat) (dv : List Int) (j : Nat) : Nat → List Int
  | 0 => unitV deg j
  | n + 1 => cvj deg dv j n ++ [- sm deg (fun k => dv.getD k 0 * (cvj deg dv j n).getD (n + k) 0)]
def Tz (deg : Nat) (dv : List Int) (j i : Nat) : Int := (cvj deg dv j (i + 1)).getD i 0
theorem cvj_len (deg : Nat) (dv : List Int) (j : Nat) : ∀ n, (cvj deg dv j n).length = deg + n
  | 0 => by simp [cvj, unitV]
  | n + 1 => by
    show (cvj deg dv j n ++ [_]).length = deg + (n + 1)
    rw [List.length_append, cvj_len deg dv j n]
    rfl
theorem cvj_pre (deg : Nat) (dv : List Int) (j : Nat) {i : Nat} : ∀ m n, i < deg + n → (cvj deg dv j (n + m)).getD i 0 = (cvj deg dv j n).getD i 0
  | 0, n, _ => rfl
  | m + 1, n, h => by
    show (cvj deg dv j (n + m) ++ [_]).getD i 0 = _
    rw [← cvj_pre deg dv j m n h, List.getD_eq_getElem?_getD, List.getElem?_append_left (by rw [cvj_len]; omega), ← List.getD_eq_getElem?_getD]
theorem cvj_T {deg : Nat} {dv : List Int} {j i n : Nat} (h : i < deg + n) : (cvj deg dv j n).getD i 0 = Tz deg dv j i := by
  unfold Tz
  rcases Nat.le_total n (i + 1) with z | z
  · obtain ⟨m, hm⟩ := Nat.le.dest z
    rw [← hm, cvj_pre deg dv j m n h]
  · obtain ⟨m, hm⟩ := Nat.le.dest z
    rw [← hm, cvj_pre deg dv j m (i + 1) (by omega)]
theorem T_lo {deg : Nat} {dv : List Int} {j i : Nat} (h : i < deg) : Tz deg dv j i = if i = j then 1 else 0 := by
  rw [← cvj_T (n := 0) (by omega)]
  show (unitV deg j).getD i 0 = _
  unfold unitV
  rw [List.getD_eq_getElem?_getD, List.getElem?_map, List.getElem?_range h]
  rfl
theorem T_rec (deg : Nat) (dv : List Int) (j a : Nat) : Tz deg dv j (a + deg) = - sm deg (fun k => dv.getD k 0 * Tz deg dv j (a + k)) := by
  rw [← cvj_T (n := a + 1) (by omega)]
  show (cvj deg dv j a ++ [_]).getD (a + deg) 0 = _
  rw [List.getD_eq_getElem?_getD, List.getElem?_append_right (by rw [cvj_len]; omega), cvj_len, show a + deg - (deg + a) = 0 by omega]
  show - sm deg _ = - sm deg _
  congr 1
  refine sm_congr fun k hk => ?_
  rw [cvj_T (by omega)]
/-- a sum of powers, item j of what is left of it -/
def ph (deg : Nat) (dv : List Int) (j : Nat) (xs : List Int) : Int := sm xs.length (fun i => xs.getD i 0 * Tz deg dv j i)
theorem getD_app_lt {xs : List Int} {h : Int} {i : Nat} (hi : i < xs.length) : (xs ++ [h]).getD i 0 = xs.getD i 0 := by
  rw [List.getD_eq_getElem?_getD, List.getElem?_append_left hi, ← List.getD_eq_getElem?_getD]
theorem getD_app_len {xs : List Int} {h : Int} : (xs ++ [h]).getD xs.length 0 = h := by
  rw [List.getD_eq_getElem?_getD, List.getElem?_concat_length]
  rfl
theorem ph_snoc (deg : Nat) (dv : List Int) (j : Nat) (xs : List Int) (h : Int) : ph deg dv j (xs ++ [h]) = ph deg dv j xs + h * Tz deg dv j xs.length := by
  unfold ph
  rw [List.length_append]
  show sm xs.length (fun i => (xs ++ [h]).getD i 0 * Tz deg dv j i) + (xs ++ [h]).getD xs.length 0 * Tz deg dv j xs.length = _
  rw [getD_app_len]
  congr 1
  exact sm_congr fun i hi => by rw [getD_app_lt hi]
theorem getD_set {xs : List Int} {i k : Nat} {v : Int} (hi : i < xs.length) : (xs.set i v).getD k 0 = if k = i then v else xs.getD k 0 := by
  rw [List.getD_eq_getElem?_getD, List.getElem?_set]
  by_cases h : i = k
  · subst h
    simp [hi]
  · rw [if_neg h, if_neg (fun z => h z.symm), List.getD_eq_getElem?_getD]
theorem sm_set {xs : List Int} {c : Nat → Int} {i : Nat} {v : Int} (hi : i < xs.length) : sm xs.length (fun k => (xs.set i v).getD k 0 * c k) = sm xs.length (fun k => xs.getD k 0 * c k) + (v - xs.getD i 0) * c i := by
  have e : sm xs.length (fun k => (xs.set i v).getD k 0 * c k) = sm xs.length (fun k => xs.getD k 0 * c k + if k = i then (v - xs.getD i 0) * c i else 0) := by
    refine sm_congr fun k hk => ?_
    rw [getD_set hi]
    by_cases h : k = i
    · subst h
      rw [if_pos rfl, if_pos rfl, Int.sub_mul]
      omega
    · rw [if_neg h, if_neg h]
      omega
  rw [e, sm_add, sm_delta (f := fun _ => (v - xs.getD i 0) * c i), if_pos hi]
theorem ph_set (deg : Nat) (dv : List Int) (j : Nat) {xs : List Int} {i : Nat} {v : Int} (hi : i < xs.length) : ph deg dv j (xs.set i v) = ph deg dv j xs + (v - xs.getD i 0) * Tz deg dv j i := by
  unfold ph
  rw [List.length_set]
  exact sm_set hi
theorem subN_len' (h : Int) (dv : List Int) (a : Nat) (r : List Int) : ∀ k, (subN h dv a r k).length = r.length
  | 0 => rfl
  | k + 1 => by
    show (List.set _ _ _).length = _
    rw [List.length_set, subN_len' h dv a r k]
theorem ph_sub (deg : Nat) (dv : List Int) (j : Nat) (h : Int) (n : Nat) (rest : List Int) : ∀ k, n + k ≤ rest.length → ph deg dv j (subN h dv n rest k) = ph deg dv j rest - h * sm k (fun m => dv.getD m 0 * Tz deg dv j (n + m))
  | 0, _ => by show ph deg dv j rest = ph deg dv j rest - h * 0; omega
  | k + 1, hk => by
    show ph deg dv j ((subN h dv n rest k).set (n + k) ((subN h dv n rest k).getD (n + k) 0 - h * dv.getD k 0)) = ph deg dv j rest - h * (sm k (fun m => dv.getD m 0 * Tz deg dv j (n + m)) + dv.getD k 0 * Tz deg dv j (n + k))
    rw [ph_set _ _ _ (by rw [subN_len']; omega), ph_sub deg dv j h n rest k (by omega), Int.mul_add, ← Int.mul_assoc]
    have e : (subN h dv n rest k).getD (n + k) 0 - h * dv.getD k 0 - (subN h dv n rest k).getD (n + k) 0 = -(h * dv.getD k 0) := by omega
    rw [e, Int.neg_mul]
    omega
theorem snoc_last' : ∀ (l : List Int), l ≠ [] → l.dropLast ++ [l.getLastD 0] = l := fun l h => by
  have := List.dropLast_concat_getLast h
  have e : l.getLastD 0 = l.getLast h := by
    cases l with
    | nil => exact absurd rfl h
    | cons a l => simp [List.getLastD, List.getLast?_cons]
  rw [e]
  exact this
theorem ph_low (deg : Nat) (dv : List Int) {j : Nat} {rest : List Int} (hl : rest.length ≤ deg) : ph deg dv j rest = rest.getD j 0 := by
  have e : ph deg dv j rest = sm rest.length (fun i => if i = j then rest.getD i 0 else 0) := by
    unfold ph
    refine sm_congr fun i hi => ?_
    rw [T_lo (by omega)]
    by_cases h : i = j
    · rw [if_pos h, if_pos h]; omega
    · rw [if_neg h, if_neg h]; omega
  rw [e, sm_delta]
  by_cases h : j < rest.length
  · rw [if_pos h]
  · rw [if_neg h, List.getD_eq_getElem?_getD, List.getElem?_eq_none (by omega)]
    rfl
theorem div_ph (deg : Nat) (dv : List Int) (j : Nat) : ∀ n rest quo, rest.length = deg + n → (divGo deg dv n rest quo).2.getD j 0 = ph deg dv j rest
  | 0, rest, quo, hl => by
    show rest.getD j 0 = _
    rw [ph_low deg dv (by omega)]
  | n + 1, rest, quo, hl => by
    have hne : rest ≠ [] := fun e => by rw [e] at hl; simp at hl
    have hn : rest.length - 1 - deg = n := by omega
    have hdl : rest.dropLast.length = deg + n := by rw [List.length_dropLast]; omega
    have hds : (divStep deg dv rest).length = deg + n := by
      unfold divStep
      rw [subN_len', hdl]
    show (divGo deg dv n (divStep deg dv rest) (quo ++ [rest.getLastD 0])).2.getD j 0 = _
    rw [div_ph deg dv j n _ _ hds]
    have e2 : ph deg dv j rest = ph deg dv j (rest.dropLast ++ [rest.getLastD 0]) := by rw [snoc_last' rest hne]
    rw [e2, ph_snoc]
    unfold divStep
    rw [hn, ph_sub _ _ _ _ _ _ _ (by omega), hdl, Nat.add_comm deg n, T_rec, Int.mul_neg]
    omega
theorem red_ph {xs dv : List Int} (h1 : 1 ≤ dv.length) {j : Nat} (hj : j < dv.length - 1) : (redL xs dv).getD j 0 = ph (dv.length - 1) dv j xs := by
  by_cases h2 : dv.length - 1 ≤ xs.length
  · have e := div_ph (dv.length - 1) dv j (xs.length - (dv.length - 1)) xs [] (by omega)
    rw [← e]
    have hl : (divL xs dv).2 = (divGo (dv.length - 1) dv (xs.length - (dv.length - 1)) xs []).2 := rfl
    have gl : ∀ n rest quo, rest.length = (dv.length - 1) + n → (divGo (dv.length - 1) dv n rest quo).2.length = dv.length - 1 := by
      intro n
      induction n with
      | zero => intro rest quo h; simpa [divGo] using h
      | succ n ih =>
        intro rest quo h
        unfold divGo
        refine ih _ _ ?_
        show (subN _ _ _ _ _).length = _
        rw [subN_len', List.length_dropLast]
        omega
    have g := gl (xs.length - (dv.length - 1)) xs [] (by omega)
    unfold redL
    rw [hl, List.getD_eq_getElem?_getD, List.getElem?_append_left (by omega), ← List.getD_eq_getElem?_getD]
  · have e : xs.length - (dv.length - 1) = 0 := by omega
    have hl : (divL xs dv).2 = xs := by
      unfold divL
      rw [e]
      rfl
    rw [ph_low _ _ (by omega)]
    unfold redL
    rw [hl, List.getD_eq_getElem?_getD, List.getD_eq_getElem?_getD]
    by_cases h : j < xs.length
    · rw [List.getElem?_append_left h]
    · rw [List.getElem?_append_right (by omega), List.getElem?_eq_none (by omega : xs.length ≤ j), List.getElem?_replicate]
      split <;> rfl
/-! ### turns -/
/-- a sum of powers times the turn to the power p, item j -/
def tn (deg : Nat) (dv : List Int) (p : Nat) (v : Nat → Int) (j : Nat) : Int := sm deg (fun k => v k * Tz deg dv j (p + k))
theorem strong {P : Nat → Prop} (h : ∀ n, (∀ m, m < n → P m) → P n) (n : Nat) : P n := Nat.strongRecOn n h
theorem tn_T (deg : Nat) (dv : List Int) (p : Nat) (j : Nat) (hd : 1 ≤ deg) : ∀ m, tn deg dv p (fun k => Tz deg dv k m) j = Tz deg dv j (p + m) := by
  refine strong fun m ih => ?_
  by_cases h : m < deg
  · unfold tn
    have e : sm deg (fun k => Tz deg dv k m * Tz deg dv j (p + k)) = sm deg (fun k => if k = m then Tz deg dv j (p + k) else 0) := by
      refine sm_congr fun k hk => ?_
      rw [T_lo h]
      by_cases q : m = k
      · rw [if_pos q, if_pos q.symm]; omega
      · rw [if_neg q, if_neg (fun z => q z.symm)]; omega
    rw [e, sm_delta, if_pos h]
  · obtain ⟨a, rfl⟩ : ∃ a, m = a + deg := ⟨m - deg, by omega⟩
    have e1 : p + (a + deg) = (p + a) + deg := by omega
    rw [e1, T_rec]
    have e2 : ∀ i, i < deg → dv.getD i 0 * Tz deg dv j (p + a + i) = dv.getD i 0 * tn deg dv p (fun k => Tz deg dv k (a + i)) j := fun i hi => by
      rw [ih (a + i) (by omega), Nat.add_assoc]
    rw [sm_congr e2]
    unfold tn
    have e3 : ∀ k, k < deg → Tz deg dv k (a + deg) * Tz deg dv j (p + k) = - sm deg (fun i => dv.getD i 0 * (Tz deg dv k (a + i) * Tz deg dv j (p + k))) := fun k _ => by
      rw [T_rec, Int.neg_mul, ← sm_mulR]
      congr 1
      exact sm_congr fun i _ => Int.mul_assoc _ _ _
    rw [sm_congr e3, sm_neg, sm_swap]
    congr 1
    exact sm_congr fun i _ => sm_mul _ _
theorem tn_tn (deg : Nat) (dv : List Int) (p q : Nat) (v : Nat → Int) (j : Nat) (hd : 1 ≤ deg) : tn deg dv p (tn deg dv q v) j = tn deg dv (p + q) v j := by
  show sm deg (fun k => sm deg (fun i => v i * Tz deg dv k (q + i)) * Tz deg dv j (p + k)) = sm deg (fun i => v i * Tz deg dv j (p + q + i))
  have e1 : ∀ k, k < deg → sm deg (fun i => v i * Tz deg dv k (q + i)) * Tz deg dv j (p + k) = sm deg (fun i => v i * (Tz deg dv k (q + i) * Tz deg dv j (p + k))) := fun k _ => by
    rw [← sm_mulR]
    exact sm_congr fun i _ => Int.mul_assoc _ _ _
  rw [sm_congr e1, sm_swap]
  refine sm_congr fun i _ => ?_
  rw [sm_mul]
  congr 1
  have := tn_T deg dv p j hd (q + i)
  unfold tn at this
  rw [this, Nat.add_assoc]
theorem tn_congr {deg : Nat} {dv : List Int} {p j : Nat} {v w : Nat → Int} (h : ∀ k, k < deg → v k = w k) : tn deg dv p v j = tn deg dv p w j := sm_congr fun k hk => by rw [h k hk]
theorem tn_add (deg : Nat) (dv : List Int) (p j : Nat) (v w : Nat → Int) : tn deg dv p (fun k => v k + w k) j = tn deg dv p v j + tn deg dv p w j := by
  unfold tn
  rw [← sm_add]
  exact sm_congr fun k _ => Int.add_mul _ _ _
theorem tn_mul (deg : Nat) (dv : List Int) (p j : Nat) (c : Int) (v : Nat → Int) : tn deg dv p (fun k => c * v k) j = c * tn deg dv p v j := by
  unfold tn
  rw [← sm_mul]
  exact sm_congr fun k _ => Int.mul_assoc _ _ _
theorem tn_sm (deg : Nat) (dv : List Int) (p j n : Nat) (f : Nat → Nat → Int) : tn deg dv p (fun k => sm n (fun i => f i k)) j = sm n (fun i => tn deg dv p (f i) j) := by
  unfold tn
  rw [sm_swap]
  exact sm_congr fun k _ => (sm_mulR _ _).symm
theorem tn_zero {deg : Nat} {dv : List Int} {v : Nat → Int} {j : Nat} (hj : j < deg) : tn deg dv 0 v j = v j := by
  unfold tn
  have e : sm deg (fun k => v k * Tz deg dv j (0 + k)) = sm deg (fun k => if k = j then v k else 0) := sm_congr fun k hk => by
    rw [Nat.zero_add, T_lo hk]
    by_cases h : k = j
    · rw [if_pos h, if_pos h]; omega
    · rw [if_neg h, if_neg h]; omega
  rw [e, sm_delta, if_pos hj]
/-- comes round after e steps -/
theorem T_per {deg : Nat} {dv : List Int} {j e : Nat} (hd : 1 ≤ deg) (h : ∀ i, i < deg → Tz deg dv j (i + e) = Tz deg dv j i) : ∀ i, Tz deg dv j (i + e) = Tz deg dv j i := by
  refine strong fun m ih => ?_
  by_cases hm : m < deg
  · exact h m hm
  · obtain ⟨a, rfl⟩ : ∃ a, m = a + deg := ⟨m - deg, by omega⟩
    rw [show a + deg + e = (a + e) + deg by omega, T_rec, T_rec]
    congr 1
    refine sm_congr fun k hk => ?_
    rw [show a + e + k = a + k + e by omega, ih (a + k) (by omega)]
theorem T_mod {deg : Nat} {dv : List Int} {j e : Nat} (h : ∀ i, Tz deg dv j (i + e) = Tz deg dv j i) : ∀ q i, Tz deg dv j (i + e * q) = Tz deg dv j i
  | 0, i => rfl
  | q + 1, i => by
    rw [Nat.mul_succ, ← Nat.add_assoc, h, T_mod h q i]
theorem T_eqv {deg : Nat} {dv : List Int} {j e : Nat} (h : ∀ i, Tz deg dv j (i + e) = Tz deg dv j i) {a b : Nat} (hab : a % e = b % e) : Tz deg dv j a = Tz deg dv j b := by
  have ha := Nat.mod_add_div a e
  have hb := Nat.mod_add_div b e
  rw [← ha, ← hb, T_mod h, T_mod h, hab]
end K45

/-! Numbers in their lowest terms; sums over places and their way back. -/
namespace K45
/-! ### lowest terms -/
theorem gcdI_nonneg (a b : Int) : 0 ≤ gcdI a b := Int.natCast_nonneg _
theorem gcdI_dvdL (a b : Int) : gcdI a b ∣ a := by
  unfold gcdI
  exact Int.ofNat_dvd_left.mpr (Nat.gcd_dvd_left _ _)
theorem gcdI_dvdR (a b : Int) : gcdI a b ∣ b := by
  unfold gcdI
  exact Int.ofNat_dvd_left.mpr (Nat.gcd_dvd_right _ _)
theorem gcdI_mul {c : Int} (hc : 0 ≤ c) (a b : Int) : gcdI (c * a) (c * b) = c * gcdI a b := by
  unfold gcdI
  rw [Int.natAbs_mul, Int.natAbs_mul, Nat.gcd_mul_left, Int.natCast_mul]
  have : ((c.natAbs : Nat) : Int) = c := by omega
  rw [this]
theorem gcdI_pos {a b : Int} (h : 1 ≤ a) : 1 ≤ gcdI a b := by
  unfold gcdI
  have h1 := Nat.gcd_pos_of_pos_left b.natAbs (show 0 < a.natAbs by omega)
  omega
theorem lowC_pos : ∀ (tops : List Int) (b : Int), 1 ≤ b → 1 ≤ lowC tops b
  | [], b, h => h
  | t :: ts, b, h => lowC_pos ts (gcdI b t) (gcdI_pos h)
theorem lowC_dvd : ∀ (tops : List Int) (b : Int), lowC tops b ∣ b ∧ ∀ t ∈ tops, lowC tops b ∣ t
  | [], b => ⟨Int.dvd_refl _, fun t h => absurd h (by simp)⟩
  | t :: ts, b => by
    have ih := lowC_dvd ts (gcdI b t)
    show lowC ts (gcdI b t) ∣ b ∧ _
    refine ⟨Int.dvd_trans ih.1 (gcdI_dvdL _ _), fun x hx => ?_⟩
    rcases List.mem_cons.mp hx with rfl | hx
    · exact Int.dvd_trans ih.1 (gcdI_dvdR _ _)
    · exact ih.2 x hx
theorem lowC_mul {c : Int} (hc : 0 ≤ c) : ∀ (tops : List Int) (b : Int), lowC (tops.map fun t => c * t) (c * b) = c * lowC tops b
  | [], b => rfl
  | t :: ts, b => by
    show lowC (ts.map fun t => c * t) (gcdI (c * b) (c * t)) = c * lowC ts (gcdI b t)
    rw [gcdI_mul hc, lowC_mul hc ts]
theorem lowL_mul {c : Int} (hc : 1 ≤ c) (tops : List Int) (b : Int) : lowL (tops.map fun t => c * t) (c * b) = lowL tops b := by
  unfold lowL
  rw [lowC_mul (by omega), List.map_map]
  refine Prod.ext ?_ ?_
  · refine List.map_congr_left fun t _ => ?_
    show c * t / (c * lowC tops b) = _
    exact Int.mul_ediv_mul_of_pos _ _ (by omega)
  · exact Int.mul_ediv_mul_of_pos _ _ (by omega)
theorem ext_getD {a b : List Int} (hl : a.length = b.length) (h : ∀ j, j < a.length → a.getD j 0 = b.getD j 0) : a = b := by
  refine List.ext_getElem hl fun j h1 h2 => ?_
  have := h j h1
  rw [List.getD_eq_getElem?_getD, List.getD_eq_getElem?_getD, List.getElem?_eq_getElem h1, List.getElem?_eq_getElem h2] at this
  exact this
theorem getD_map {c : Int → Int} (h0 : c 0 = 0) (a : List Int) (j : Nat) : (a.map c).getD j 0 = c (a.getD j 0) := by
  rw [List.getD_eq_getElem?_getD, List.getD_eq_getElem?_getD, List.getElem?_map]
  cases a[j]? with
  | none => exact h0.symm
  | some x => rfl
/-- equal fractions have the same lowest terms -/
theorem low_eq {v v' : List Int} {b b' : Int} (hb : 1 ≤ b) (hb' : 1 ≤ b') (hl : v.length = v'.length) (h : ∀ j, j < v.length → b' * v.getD j 0 = b * v'.getD j 0) : lowL v b = lowL v' b' := by
  rw [← lowL_mul hb' v b, ← lowL_mul hb v' b', Int.mul_comm b' b]
  congr 1
  refine ext_getD (by simp [hl]) fun j hj => ?_
  rw [List.length_map] at hj
  rw [getD_map (Int.mul_zero _), getD_map (Int.mul_zero _), h j hj]
theorem low_len (v : List Int) (b : Int) : (lowL v b).1.length = v.length := List.length_map _
theorem low_pos {v : List Int} {b : Int} (hb : 1 ≤ b) : 1 ≤ (lowL v b).2 := by
  have g := lowC_pos v b hb
  obtain ⟨c, hc⟩ := (lowC_dvd v b).1
  show 1 ≤ b / lowC v b
  have : b / lowC v b = c := by
    conv => lhs; lhs; rw [hc]
    exact Int.mul_ediv_cancel_left _ (by omega)
  rw [this]
  rcases Int.lt_or_le 0 c with z | z
  · omega
  · exfalso
    have := Int.mul_le_mul_of_nonneg_left z (show 0 ≤ lowC v b by omega)
    omega
theorem low_dvd (v : List Int) (b : Int) (hb : 1 ≤ b) : (lowL v b).2 ∣ b := by
  obtain ⟨c, hc⟩ := (lowC_dvd v b).1
  have g := lowC_pos v b hb
  have : b / lowC v b = c := by
    conv => lhs; lhs; rw [hc]
    exact Int.mul_ediv_cancel_left _ (by omega)
  show b / lowC v b ∣ b
  rw [this]
  exact ⟨lowC v b, by rw [Int.mul_comm]; exact hc⟩
theorem low_cross {v : List Int} {b : Int} (hb : 1 ≤ b) (j : Nat) : (lowL v b).2 * v.getD j 0 = b * (lowL v b).1.getD j 0 := by
  have g := lowC_pos v b hb
  have d := lowC_dvd v b
  show b / lowC v b * v.getD j 0 = b * (v.map fun t => t / lowC v b).getD j 0
  rw [getD_map (c := fun t => t / lowC v b) (Int.zero_ediv _)]
  have dt : lowC v b ∣ v.getD j 0 := by
    rw [List.getD_eq_getElem?_getD]
    by_cases h : j < v.length
    · rw [List.getElem?_eq_getElem h]
      exact d.2 _ (List.getElem_mem _)
    · rw [List.getElem?_eq_none (by omega)]
      exact Int.dvd_zero _
  obtain ⟨c, hc⟩ := d.1
  obtain ⟨t, ht⟩ := dt
  have e1 : b / lowC v b = c := by
    conv => lhs; lhs; rw [hc]
    exact Int.mul_ediv_cancel_left _ (by omega)
  have e2 : v.getD j 0 / lowC v b = t := by
    rw [ht]
    exact Int.mul_ediv_cancel_left _ (by omega)
  rw [e1, e2]
  conv => rhs; lhs; rw [hc]
  conv => lhs; rhs; rw [ht]
  rw [← Int.mul_assoc, Int.mul_comm c]
/-- lowest terms stay -/
theorem low_low {v : List Int} {b : Int} (hb : 1 ≤ b) : lowL (lowL v b).1 (lowL v b).2 = lowL v b :=
  low_eq (low_pos hb) hb (low_len v b) fun j _ => by rw [← low_cross hb]
/-! ### pairings -/
def difL (r x y : List Int) : List Int := (List.range r.length).map fun k => (x.getD k 0 - y.getD k 0) % r.getD k 0
theorem difL_get {r x y : List Int} {k : Nat} (h : k < r.length) : (difL r x y).getD k 0 = (x.getD k 0 - y.getD k 0) % r.getD k 0 := by
  unfold difL
  rw [List.getD_eq_getElem?_getD, List.getElem?_map, List.getElem?_range h]
  rfl
theorem pair_symm (r : List Int) (e : Int) (x l : List Int) : pairL r e x l = pairL r e l x := by
  have h : ∀ n, pairGo r e x l n = pairGo r e l x n := fun n => by
    induction n with
    | zero => rfl
    | succ n ih =>
      show _ + _ = _ + _
      rw [ih, Int.mul_comm (x.getD n 0)]
  unfold pairL
  rw [h]
theorem pair_dif {r : List Int} {e : Int} (x y l : List Int) (hr : ∀ k, k < r.length → e % r.getD k 0 = 0) : ∀ n, n ≤ r.length → e ∣ pairGo r e x l n - pairGo r e y l n - pairGo r e (difL r x y) l n
  | 0, _ => ⟨0, by show (0 : Int) - 0 - 0 = e * 0; omega⟩
  | n + 1, h => by
    have ih := pair_dif x y l hr n (by omega)
    show e ∣ pairGo r e x l n + x.getD n 0 * l.getD n 0 * (e / r.getD n 0) - (pairGo r e y l n + y.getD n 0 * l.getD n 0 * (e / r.getD n 0)) - (pairGo r e (difL r x y) l n + (difL r x y).getD n 0 * l.getD n 0 * (e / r.getD n 0))
    rw [difL_get (by omega)]
    generalize hm : r.getD n 0 = m
    generalize x.getD n 0 = a
    generalize y.getD n 0 = b
    generalize l.getD n 0 = c
    have hem : m * (e / m) = e := Int.mul_ediv_cancel' (Int.dvd_of_emod_eq_zero (by rw [← hm]; exact hr n (by omega)))
    have e1 : a * c * (e / m) - b * c * (e / m) - (a - b) % m * c * (e / m) = e * ((a - b) / m * c) := by
      have q : a - b = (a - b) % m + m * ((a - b) / m) := (Int.emod_add_mul_ediv _ _).symm
      have : a * c * (e / m) - b * c * (e / m) - (a - b) % m * c * (e / m) = (a - b - (a - b) % m) * c * (e / m) := by
        rw [Int.sub_mul, Int.sub_mul, Int.sub_mul, Int.sub_mul]
      rw [this]
      have : a - b - (a - b) % m = m * ((a - b) / m) := by omega
      rw [this]
      conv => rhs; lhs; rw [← hem]
      rw [Int.mul_assoc, Int.mul_assoc, Int.mul_assoc]
      congr 1
      rw [Int.mul_comm (e / m), ← Int.mul_assoc]
    obtain ⟨q, hq⟩ := ih
    refine ⟨q + (a - b) / m * c, ?_⟩
    rw [Int.mul_add, ← hq, ← e1]
    omega
theorem pair_difL {r : List Int} {e : Int} (he : 0 < e) (x y l : List Int) (hr : ∀ k, k < r.length → e % r.getD k 0 = 0) : (pairL r e x l - pairL r e y l) % e = pairL r e (difL r x y) l := by
  obtain ⟨q, hq⟩ := pair_dif x y l hr r.length (Nat.le_refl _)
  unfold pairL
  rw [← Int.sub_emod]
  have : pairGo r e x l r.length - pairGo r e y l r.length = pairGo r e (difL r x y) l r.length + e * q := by omega
  rw [this, Int.add_mul_emod_self_left]
/-! ### sums over places -/
/-- how far a place turns -/
def pw (r : List Int) (e sg : Int) (x l : List Int) : Nat := ((sg * pairL r e x l) % e).toNat
/-- the sum of vectors, each turned by its place -/
def TSf (r : List Int) (e : Int) (deg : Nat) (dv : List Int) (pl : Nat → List Int) (n : Nat) (sg : Int) (l : List Int) (W : Nat → Nat → Int) (j : Nat) : Int := sm n fun i => tn deg dv (pw r e sg (pl i) l) (W i) j
section
variable {r : List Int} {e : Int} {deg : Nat} {dv : List Int} {pl : Nat → List Int} {n : Nat}
theorem TSf_congr {sg : Int} {l : List Int} {W W' : Nat → Nat → Int} {j : Nat} (h : ∀ i, i < n → ∀ k, k < deg → W i k = W' i k) : TSf r e deg dv pl n sg l W j = TSf r e deg dv pl n sg l W' j := sm_congr fun i hi => tn_congr (h i hi)
theorem TSf_add (sg : Int) (l : List Int) (W W' : Nat → Nat → Int) (j : Nat) : TSf r e deg dv pl n sg l (fun i k => W i k + W' i k) j = TSf r e deg dv pl n sg l W j + TSf r e deg dv pl n sg l W' j := by
  unfold TSf
  rw [← sm_add]
  exact sm_congr fun i _ => tn_add _ _ _ _ _ _
theorem TSf_mul (sg : Int) (l : List Int) (c : Int) (W : Nat → Nat → Int) (j : Nat) : TSf r e deg dv pl n sg l (fun i k => c * W i k) j = c * TSf r e deg dv pl n sg l W j := by
  unfold TSf
  rw [← sm_mul]
  exact sm_congr fun i _ => tn_mul _ _ _ _ _ _
/-- what is asked of a floor's tables -/
structure Tabs (r : List Int) (e : Int) (deg : Nat) (dv : List Int) (pl : Nat → List Int) (n : Nat) : Prop where
  e0 : 0 < e
  d1 : 1 ≤ deg
  per : ∀ j, j < deg → ∀ i, Tz deg dv j (i + e.toNat) = Tz deg dv j i
  div : ∀ k, k < r.length → e % r.getD k 0 = 0
  dif : ∀ i, i < n → ∀ b, b < n → ∃ c, c < n ∧ pl c = difL r (pl i) (pl b) ∧ (c = 0 ↔ i = b)
  orth : ∀ c, c < n → ∀ j, j < deg → sm n (fun li => Tz deg dv j (pairL r e (pl c) (pl li)).toNat) = if c = 0 then (n : Int) * (if j = 0 then 1 else 0) else 0
theorem modn {a : Int} {e : Int} (he : 0 < e) : ((a % e).toNat : Int) = a % e := Int.toNat_of_nonneg (Int.emod_nonneg _ (by omega))
theorem pair_mod (he : 0 < e) (x l : List Int) : pairL r e x l % e = pairL r e x l := by
  unfold pairL
  exact Int.emod_emod_of_dvd _ (Int.dvd_refl _)
theorem inv1 (B : Tabs r e deg dv pl n) {p q : Nat → Nat} {c : Nat} (hc : c < n) (h : ∀ li, li < n → ((p li : Int) + (q li : Int)) % e = pairL r e (pl c) (pl li)) (w : Nat → Int) {j : Nat} (hj : j < deg) :
    sm n (fun li => tn deg dv (p li) (tn deg dv (q li) w) j) = if c = 0 then (n : Int) * w j else 0 := by
  have he := B.e0
  have e1 : ∀ li, li < n → tn deg dv (p li) (tn deg dv (q li) w) j = sm deg (fun k => w k * tn deg dv k (fun m => Tz deg dv m (pairL r e (pl c) (pl li)).toNat) j) := fun li hl => by
    rw [tn_tn _ _ _ _ _ _ B.d1]
    unfold tn
    refine sm_congr fun k hk => ?_
    congr 1
    have := tn_T deg dv k j B.d1 (pairL r e (pl c) (pl li)).toNat
    unfold tn at this
    rw [this]
    refine T_eqv (e := e.toNat) (B.per j hj) ?_
    have hh := h li hl
    have hx : ((pairL r e (pl c) (pl li)).toNat : Int) = pairL r e (pl c) (pl li) := by
      rw [← pair_mod he]
      exact modn he
    have g1 : (((p li + q li) % e.toNat : Nat) : Int) = (((pairL r e (pl c) (pl li)).toNat) % e.toNat : Nat) := by
      rw [Int.natCast_emod, Int.natCast_emod, Int.natCast_add, hx, show ((e.toNat : Nat) : Int) = e by omega, hh, pair_mod he]
    have g2 : (p li + q li) % e.toNat = (pairL r e (pl c) (pl li)).toNat % e.toNat := by exact_mod_cast g1
    rw [Nat.add_mod, g2, Nat.add_comm k, Nat.add_mod ((pairL r e (pl c) (pl li)).toNat)]
  rw [sm_congr e1, sm_swap]
  have e2 : ∀ k, k < deg → sm n (fun li => w k * tn deg dv k (fun m => Tz deg dv m (pairL r e (pl c) (pl li)).toNat) j) = if c = 0 then (n : Int) * (w k * Tz deg dv j k) else 0 := fun k _ => by
    rw [sm_mul, ← tn_sm deg dv k j n (fun li m => Tz deg dv m (pairL r e (pl c) (pl li)).toNat)]
    have e3 : tn deg dv k (fun m => sm n (fun li => Tz deg dv m (pairL r e (pl c) (pl li)).toNat)) j = tn deg dv k (fun m => if c = 0 then (n : Int) * (if m = 0 then 1 else 0) else 0) j := tn_congr fun m hm => B.orth c hc m hm
    rw [e3]
    by_cases h0 : c = 0
    · rw [if_pos h0]
      simp only [h0, if_true]
      rw [tn_mul]
      have : tn deg dv k (fun m => if m = 0 then 1 else 0) j = Tz deg dv j k := by
        unfold tn
        have : ∀ m, m < deg → (if m = 0 then 1 else 0) * Tz deg dv j (k + m) = if m = 0 then Tz deg dv j (k + m) else 0 := fun m _ => by
          by_cases z : m = 0
          · rw [if_pos z, if_pos z]; omega
          · rw [if_neg z, if_neg z]; omega
        rw [sm_congr this, sm_delta, if_pos (by have := B.d1; omega)]
        rfl
      rw [this, ← Int.mul_assoc, Int.mul_comm (w k), Int.mul_assoc]
    · rw [if_neg h0]
      simp only [h0, if_false]
      have : tn deg dv k (fun _ => 0) j = 0 := by
        unfold tn
        have : ∀ m, m < deg → (0 : Int) * Tz deg dv j (k + m) = 0 := fun m _ => Int.zero_mul _
        rw [sm_congr this, sm_zero]
      rw [this, Int.mul_zero]
  rw [sm_congr e2]
  by_cases h0 : c = 0
  · simp only [h0, if_true]
    rw [sm_mul]
    congr 1
    have : ∀ k, k < deg → w k * Tz deg dv j k = if k = j then w k else 0 := fun k hk => by
      rw [T_lo hk]
      by_cases z : k = j
      · rw [if_pos z, if_pos z]; omega
      · rw [if_neg z, if_neg z]; omega
    rw [sm_congr this, sm_delta, if_pos hj]
  · simp only [h0, if_false]
    exact sm_zero _
theorem pw_cast (he : 0 < e) (sg : Int) (x l : List Int) : ((pw r e sg x l : Nat) : Int) = (sg * pairL r e x l) % e := modn he
/-- there and back -/
theorem inv_ts (B : Tabs r e deg dv pl n) {s : Int} (hs : s = 1 ∨ s = -1) {b : Nat} (hb : b < n) (W : Nat → Nat → Int) {j : Nat} (hj : j < deg) :
    TSf r e deg dv pl n s (pl b) (fun li => TSf r e deg dv pl n (-s) (pl li) W) j = (n : Int) * W b j := by
  have he := B.e0
  unfold TSf
  have e1 : ∀ li, li < n → tn deg dv (pw r e s (pl li) (pl b)) (fun k => sm n fun i => tn deg dv (pw r e (-s) (pl i) (pl li)) (W i) k) j = sm n (fun i => tn deg dv (pw r e s (pl li) (pl b)) (tn deg dv (pw r e (-s) (pl i) (pl li)) (W i)) j) := fun li _ => tn_sm _ _ _ _ _ _
  show sm n (fun li => tn deg dv (pw r e s (pl li) (pl b)) (fun k => sm n fun i => tn deg dv (pw r e (-s) (pl i) (pl li)) (W i) k) j) = _
  rw [sm_congr e1, sm_swap]
  have e2 : ∀ i, i < n → sm n (fun li => tn deg dv (pw r e s (pl li) (pl b)) (tn deg dv (pw r e (-s) (pl i) (pl li)) (W i)) j) = if i = b then (n : Int) * W i j else 0 := fun i hi => by
    rcases hs with rfl | rfl
    · obtain ⟨c, hc, ec, iff⟩ := B.dif b hb i hi
      rw [inv1 B hc (fun li hl => ?_) (W i) hj]
      · by_cases h0 : c = 0
        · rw [if_pos h0, if_pos (iff.mp h0).symm]
        · rw [if_neg h0, if_neg (fun z => h0 (iff.mpr z.symm))]
      · rw [pw_cast he, pw_cast he, ec, ← pair_difL he _ _ _ B.div, pair_symm r e (pl li), ← Int.add_emod]
        congr 1
        omega
    · obtain ⟨c, hc, ec, iff⟩ := B.dif i hi b hb
      rw [inv1 B hc (fun li hl => ?_) (W i) hj]
      · by_cases h0 : c = 0
        · rw [if_pos h0, if_pos (iff.mp h0)]
        · rw [if_neg h0, if_neg (fun z => h0 (iff.mpr z))]
      · rw [pw_cast he, pw_cast he, ec, ← pair_difL he _ _ _ B.div, pair_symm r e (pl li), ← Int.add_emod]
        congr 1
        omega
  rw [sm_congr e2, sm_delta (f := fun i => (n : Int) * W i j), if_pos hb]
end
end K45

/-! Tables of the orders: what is left of the powers; that they come round; sums over all labels. -/
namespace K45
def tabs : List (Int × List Int × List (List Int)) := [(2, [1, 1], [[1, -1, 1]]),
  (3, [1, 1, 1], [[1, 0, -1, 1, 0], [0, 1, -1, 0, 1]]),
  (4, [1, 0, 1], [[1, 0, -1, 0, 1, 0], [0, 1, 0, -1, 0, 1]]),
  (5, [1, 1, 1, 1, 1], [[1, 0, 0, 0, -1, 1, 0, 0, 0], [0, 1, 0, 0, -1, 0, 1, 0, 0], [0, 0, 1, 0, -1, 0, 0, 1, 0], [0, 0, 0, 1, -1, 0, 0, 0, 1]]),
  (6, [1, -1, 1], [[1, 0, -1, -1, 0, 1, 1, 0], [0, 1, 1, 0, -1, -1, 0, 1]]),
  (7, [1, 1, 1, 1, 1, 1, 1], [[1, 0, 0, 0, 0, 0, -1, 1, 0, 0, 0, 0, 0], [0, 1, 0, 0, 0, 0, -1, 0, 1, 0, 0, 0, 0], [0, 0, 1, 0, 0, 0, -1, 0, 0, 1, 0, 0, 0], [0, 0, 0, 1, 0, 0, -1, 0, 0, 0, 1, 0, 0], [0, 0, 0, 0, 1, 0, -1, 0, 0, 0, 0, 1, 0], [0, 0, 0, 0, 0, 1, -1, 0, 0, 0, 0, 0, 1]]),
  (8, [1, 0, 0, 0, 1], [[1, 0, 0, 0, -1, 0, 0, 0, 1, 0, 0, 0], [0, 1, 0, 0, 0, -1, 0, 0, 0, 1, 0, 0], [0, 0, 1, 0, 0, 0, -1, 0, 0, 0, 1, 0], [0, 0, 0, 1, 0, 0, 0, -1, 0, 0, 0, 1]]),
  (9, [1, 0, 0, 1, 0, 0, 1], [[1, 0, 0, 0, 0, 0, -1, 0, 0, 1, 0, 0, 0, 0, 0], [0, 1, 0, 0, 0, 0, 0, -1, 0, 0, 1, 0, 0, 0, 0], [0, 0, 1, 0, 0, 0, 0, 0, -1, 0, 0, 1, 0, 0, 0], [0, 0, 0, 1, 0, 0, -1, 0, 0, 0, 0, 0, 1, 0, 0], [0, 0, 0, 0, 1, 0, 0, -1, 0, 0, 0, 0, 0, 1, 0], [0, 0, 0, 0, 0, 1, 0, 0, -1, 0, 0, 0, 0, 0, 1]]),
  (10, [1, -1, 1, -1, 1], [[1, 0, 0, 0, -1, -1, 0, 0, 0, 1, 1, 0, 0, 0], [0, 1, 0, 0, 1, 0, -1, 0, 0, -1, 0, 1, 0, 0], [0, 0, 1, 0, -1, 0, 0, -1, 0, 1, 0, 0, 1, 0], [0, 0, 0, 1, 1, 0, 0, 0, -1, -1, 0, 0, 0, 1]]),
  (12, [1, 0, -1, 0, 1], [[1, 0, 0, 0, -1, 0, -1, 0, 0, 0, 1, 0, 1, 0, 0, 0], [0, 1, 0, 0, 0, -1, 0, -1, 0, 0, 0, 1, 0, 1, 0, 0], [0, 0, 1, 0, 1, 0, 0, 0, -1, 0, -1, 0, 0, 0, 1, 0], [0, 0, 0, 1, 0, 1, 0, 0, 0, -1, 0, -1, 0, 0, 0, 1]]),
  (16, [1, 0, 0, 0, 0, 0, 0, 0, 1], [[1, 0, 0, 0, 0, 0, 0, 0, -1, 0, 0, 0, 0, 0, 0, 0, 1, 0, 0, 0, 0, 0, 0, 0], [0, 1, 0, 0, 0, 0, 0, 0, 0, -1, 0, 0, 0, 0, 0, 0, 0, 1, 0, 0, 0, 0, 0, 0], [0, 0, 1, 0, 0, 0, 0, 0, 0, 0, -1, 0, 0, 0, 0, 0, 0, 0, 1, 0, 0, 0, 0, 0], [0, 0, 0, 1, 0, 0, 0, 0, 0, 0, 0, -1, 0, 0, 0, 0, 0, 0, 0, 1, 0, 0, 0, 0], [0, 0, 0, 0, 1, 0, 0, 0, 0, 0, 0, 0, -1, 0, 0, 0, 0, 0, 0, 0, 1, 0, 0, 0], [0, 0, 0, 0, 0, 1, 0, 0, 0, 0, 0, 0, 0, -1, 0, 0, 0, 0, 0, 0, 0, 1, 0, 0], [0, 0, 0, 0, 0, 0, 1, 0, 0, 0, 0, 0, 0, 0, -1, 0, 0, 0, 0, 0, 0, 0, 1, 0], [0, 0, 0, 0, 0, 0, 0, 1, 0, 0, 0, 0, 0, 0, 0, -1, 0, 0, 0, 0, 0, 0, 0, 1]]),
  (15, [1, -1, 0, 1, -1, 1, 0, -1, 1], [[1, 0, 0, 0, 0, 0, 0, 0, -1, -1, -1, 0, 0, 1, 1, 1, 0, 0, 0, 0, 0, 0, 0], [0, 1, 0, 0, 0, 0, 0, 0, 1, 0, 0, -1, 0, -1, 0, 0, 1, 0, 0, 0, 0, 0, 0], [0, 0, 1, 0, 0, 0, 0, 0, 0, 1, 0, 0, -1, 0, -1, 0, 0, 1, 0, 0, 0, 0, 0], [0, 0, 0, 1, 0, 0, 0, 0, -1, -1, 0, 0, 0, 0, 1, 0, 0, 0, 1, 0, 0, 0, 0], [0, 0, 0, 0, 1, 0, 0, 0, 1, 0, 0, 0, 0, -1, -1, 0, 0, 0, 0, 1, 0, 0, 0], [0, 0, 0, 0, 0, 1, 0, 0, -1, 0, -1, 0, 0, 1, 0, 0, 0, 0, 0, 0, 1, 0, 0], [0, 0, 0, 0, 0, 0, 1, 0, 0, -1, 0, -1, 0, 0, 1, 0, 0, 0, 0, 0, 0, 1, 0], [0, 0, 0, 0, 0, 0, 0, 1, 1, 1, 0, 0, -1, -1, -1, 0, 0, 0, 0, 0, 0, 0, 1]]),
  (13, [1, 1, 1, 1, 1, 1, 1, 1, 1, 1, 1, 1, 1], [[1, 0, 0, 0, 0, 0, 0, 0, 0, 0, 0, 0, -1, 1, 0, 0, 0, 0, 0, 0, 0, 0, 0, 0, 0], [0, 1, 0, 0, 0, 0, 0, 0, 0, 0, 0, 0, -1, 0, 1, 0, 0, 0, 0, 0, 0, 0, 0, 0, 0], [0, 0, 1, 0, 0, 0, 0, 0, 0, 0, 0, 0, -1, 0, 0, 1, 0, 0, 0, 0, 0, 0, 0, 0, 0], [0, 0, 0, 1, 0, 0, 0, 0, 0, 0, 0, 0, -1, 0, 0, 0, 1, 0, 0, 0, 0, 0, 0, 0, 0], [0, 0, 0, 0, 1, 0, 0, 0, 0, 0, 0, 0, -1, 0, 0, 0, 0, 1, 0, 0, 0, 0, 0, 0, 0], [0, 0, 0, 0, 0, 1, 0, 0, 0, 0, 0, 0, -1, 0, 0, 0, 0, 0, 1, 0, 0, 0, 0, 0, 0], [0, 0, 0, 0, 0, 0, 1, 0, 0, 0, 0, 0, -1, 0, 0, 0, 0, 0, 0, 1, 0, 0, 0, 0, 0], [0, 0, 0, 0, 0, 0, 0, 1, 0, 0, 0, 0, -1, 0, 0, 0, 0, 0, 0, 0, 1, 0, 0, 0, 0], [0, 0, 0, 0, 0, 0, 0, 0, 1, 0, 0, 0, -1, 0, 0, 0, 0, 0, 0, 0, 0, 1, 0, 0, 0], [0, 0, 0, 0, 0, 0, 0, 0, 0, 1, 0, 0, -1, 0, 0, 0, 0, 0, 0, 0, 0, 0, 1, 0, 0], [0, 0, 0, 0, 0, 0, 0, 0, 0, 0, 1, 0, -1, 0, 0, 0, 0, 0, 0, 0, 0, 0, 0, 1, 0], [0, 0, 0, 0, 0, 0, 0, 0, 0, 0, 0, 1, -1, 0, 0, 0, 0, 0, 0, 0, 0, 0, 0, 0, 1]]),
  (11, [1, 1, 1, 1, 1, 1, 1, 1, 1, 1, 1], [[1, 0, 0, 0, 0, 0, 0, 0, 0, 0, -1, 1, 0, 0, 0, 0, 0, 0, 0, 0, 0], [0, 1, 0, 0, 0, 0, 0, 0, 0, 0, -1, 0, 1, 0, 0, 0, 0, 0, 0, 0, 0], [0, 0, 1, 0, 0, 0, 0, 0, 0, 0, -1, 0, 0, 1, 0, 0, 0, 0, 0, 0, 0], [0, 0, 0, 1, 0, 0, 0, 0, 0, 0, -1, 0, 0, 0, 1, 0, 0, 0, 0, 0, 0], [0, 0, 0, 0, 1, 0, 0, 0, 0, 0, -1, 0, 0, 0, 0, 1, 0, 0, 0, 0, 0], [0, 0, 0, 0, 0, 1, 0, 0, 0, 0, -1, 0, 0, 0, 0, 0, 1, 0, 0, 0, 0], [0, 0, 0, 0, 0, 0, 1, 0, 0, 0, -1, 0, 0, 0, 0, 0, 0, 1, 0, 0, 0], [0, 0, 0, 0, 0, 0, 0, 1, 0, 0, -1, 0, 0, 0, 0, 0, 0, 0, 1, 0, 0], [0, 0, 0, 0, 0, 0, 0, 0, 1, 0, -1, 0, 0, 0, 0, 0, 0, 0, 0, 1, 0], [0, 0, 0, 0, 0, 0, 0, 0, 0, 1, -1, 0, 0, 0, 0, 0, 0, 0, 0, 0, 1]])]
theorem tabs_ok : ∀ t ∈ tabs, polyL t.1 = t.2.1 ∧ t.2.2 = (List.range (t.2.1.length - 1)).map (fun j => cvj (t.2.1.length - 1) t.2.1 j t.1.toNat) := by decide +kernel
theorem er_tab : ∀ e ∈ ER, ∃ t ∈ tabs, t.1 = e := by decide +kernel
theorem tab_sm : ∀ t ∈ tabs, 2 ≤ t.1 ∧ 2 ≤ t.2.1.length ∧ t.2.1.length - 1 = (unitsL t.1).length ∧ t.2.1.length ≤ t.1.toNat ∧ t.2.1.getD (t.2.1.length - 1) 0 = 1 ∧ (∀ col ∈ t.2.2, ∀ i ∈ List.range (t.2.1.length - 1), col.getD (i + t.1.toNat) 0 = col.getD i 0) := by decide +kernel
def orthB (r : List Int) (e : Int) (cols : List (List Int)) : Bool :=
  (List.range (placesL r).length).all fun c => (List.range cols.length).all fun j =>
    decide (sm (placesL r).length (fun li => (cols.getD j []).getD (pairL r e ((placesL r).getD c []) ((placesL r).getD li [])).toNat 0) = if c = 0 then ((placesL r).length : Int) * (if j = 0 then 1 else 0) else 0)
theorem orth_ok : ∀ r ∈ RR, ∀ t ∈ tabs, ordL r = t.1 → orthB r t.1 t.2.2 = true := by decide +kernel
def idx (r x : List Int) : Nat := (placesL r).findIdx fun y => decide (y = x)
def difB (r : List Int) : Bool :=
  (List.range (placesL r).length).all fun i => (List.range (placesL r).length).all fun b =>
    decide ((placesL r)[idx r (difL r ((placesL r).getD i []) ((placesL r).getD b []))]? = some (difL r ((placesL r).getD i []) ((placesL r).getD b [])) ∧ (idx r (difL r ((placesL r).getD i []) ((placesL r).getD b [])) = 0 ↔ i = b))
theorem dif_ok : ∀ r ∈ RR, difB r = true := by decide +kernel
theorem div_ok : ∀ r ∈ RR, ∀ k ∈ List.range r.length, ordL r % r.getD k 0 = 0 := by decide +kernel
theorem ord_er : ∀ r ∈ RR, ordL r ∈ ER := by decide +kernel
theorem org_ok : ∀ r ∈ RR, ∀ x ∈ placesL r, pairL r (ordL r) x ((placesL r).getD 0 []) = 0 := by decide +kernel
theorem tab_col {t : Int × List Int × List (List Int)} (ht : t ∈ tabs) {j : Nat} (hj : j < t.2.1.length - 1) {i : Nat} (hi : i < t.2.1.length - 1 + t.1.toNat) : (t.2.2.getD j []).getD i 0 = Tz (t.2.1.length - 1) t.2.1 j i := by
  rw [(tabs_ok t ht).2]
  have : ((List.range (t.2.1.length - 1)).map (fun j => cvj (t.2.1.length - 1) t.2.1 j t.1.toNat)).getD j [] = cvj (t.2.1.length - 1) t.2.1 j t.1.toNat := by
    rw [List.getD_eq_getElem?_getD, List.getElem?_map, List.getElem?_range hj]
    rfl
  rw [this, cvj_T hi]
/-- the degree of a floor's order -/
abbrev dg (r : List Int) : Nat := (polyL (ordL r)).length - 1
theorem tabs_of {r : List Int} (h : r ∈ RR) : Tabs r (ordL r) (dg r) (polyL (ordL r)) (fun i => (placesL r).getD i []) (placesL r).length := by
  obtain ⟨t, ht, te⟩ := er_tab _ (ord_er r h)
  have ok := tabs_ok t ht
  have sml := tab_sm t ht
  have ep : polyL (ordL r) = t.2.1 := by rw [← te]; exact ok.1
  have lc : t.2.2.length = t.2.1.length - 1 := by
    rw [ok.2]
    simp
  refine ⟨by omega, ?_, ?_, fun k hk => div_ok r h k (List.mem_range.mpr hk), ?_, ?_⟩
  · show 1 ≤ (polyL (ordL r)).length - 1
    rw [ep]
    omega
  · show ∀ j, j < (polyL (ordL r)).length - 1 → ∀ i, Tz ((polyL (ordL r)).length - 1) (polyL (ordL r)) j (i + (ordL r).toNat) = Tz ((polyL (ordL r)).length - 1) (polyL (ordL r)) j i
    rw [ep]
    intro j hj
    refine T_per (by omega) fun i hi => ?_
    rw [← te, ← tab_col ht hj (by omega), ← tab_col ht hj (by omega)]
    refine sml.2.2.2.2.2 _ ?_ i (List.mem_range.mpr hi)
    rw [List.getD_eq_getElem?_getD, List.getElem?_eq_getElem (by omega)]
    exact List.getElem_mem _
  · intro i hi b hb
    have := dif_ok r h
    unfold difB at this
    rw [List.all_eq_true] at this
    have := this i (List.mem_range.mpr hi)
    rw [List.all_eq_true] at this
    have := of_decide_eq_true (this b (List.mem_range.mpr hb))
    refine ⟨_, (List.getElem?_eq_some_iff.mp this.1).1, ?_, this.2⟩
    show (placesL r).getD _ [] = _
    rw [List.getD_eq_getElem?_getD, this.1]
    rfl
  · show ∀ c, c < (placesL r).length → ∀ j, j < (polyL (ordL r)).length - 1 → sm (placesL r).length (fun li => Tz ((polyL (ordL r)).length - 1) (polyL (ordL r)) j (pairL r (ordL r) ((placesL r).getD c []) ((placesL r).getD li [])).toNat) = _
    rw [ep]
    intro c hc j hj
    have := orth_ok r h t ht te.symm
    unfold orthB at this
    rw [List.all_eq_true] at this
    have := this c (List.mem_range.mpr hc)
    rw [List.all_eq_true] at this
    have := of_decide_eq_true (this j (List.mem_range.mpr (by omega)))
    rw [← this]
    refine sm_congr fun li _ => ?_
    have pb : (pairL r t.1 ((placesL r).getD c []) ((placesL r).getD li [])).toNat < t.1.toNat := by
      have h0 := Int.emod_nonneg (pairGo r t.1 ((placesL r).getD c []) ((placesL r).getD li []) r.length) (show t.1 ≠ 0 by omega)
      have h1 := Int.emod_lt_of_pos (pairGo r t.1 ((placesL r).getD c []) ((placesL r).getD li []) r.length) (show 0 < t.1 by omega)
      unfold pairL
      omega
    rw [← te, tab_col ht hj (by omega)]
end K45

/-! Rows and their voices as fractions of vectors. -/
namespace K45
/-! ### sums of turns, item by item -/
def dotc (c : Nat → Int) (xs : List Int) : Int := sm xs.length (fun k => xs.getD k 0 * c k)
theorem dotc_step {c : Nat → Int} {e : Int} (he : 0 < e) {tot : List Int} (hl : tot.length = e.toNat) (j v : Int) : dotc c (stepT e tot j v) = dotc c tot + v * c (j % e).toNat := by
  have h0 := Int.emod_nonneg j (show e ≠ 0 by omega)
  have h1 := Int.emod_lt_of_pos j he
  unfold dotc stepT
  rw [List.length_set, sm_set (by omega)]
  congr 2
  omega
theorem addN_len' (e p : Int) (tops tot : List Int) : ∀ k, (addN e p tops tot k).length = tot.length
  | 0 => rfl
  | k + 1 => by
    show (List.set _ _ _).length = tot.length
    rw [List.length_set, addN_len' e p tops tot k]
theorem dotc_add {c : Nat → Int} {e : Int} (he : 0 < e) {tot : List Int} (hl : tot.length = e.toNat) (p : Int) (tops : List Int) : ∀ k, dotc c (addN e p tops tot k) = dotc c tot + sm k (fun m => tops.getD m 0 * c ((p + (m : Int)) % e).toNat)
  | 0 => by show dotc c tot = dotc c tot + 0; omega
  | k + 1 => by
    show dotc c (stepT e (addN e p tops tot k) (p + (k : Int)) (tops.getD k 0)) = dotc c tot + (sm k (fun m => tops.getD m 0 * c ((p + (m : Int)) % e).toNat) + tops.getD k 0 * c ((p + (k : Int)) % e).toNat)
    rw [dotc_step he (by rw [addN_len', hl]), dotc_add he hl p tops k]
    omega
theorem tsGo_len' (r : List Int) (e sg : Int) (label : List Int) (items : List (List Int)) : ∀ i, (tsGo r e sg label items i).length = e.toNat
  | 0 => by simp [tsGo]
  | i + 1 => by
    show (addN _ _ _ _ _).length = _
    rw [addN_len', tsGo_len' r e sg label items i]
theorem dotc_zero (c : Nat → Int) (n : Nat) : dotc c (List.replicate n 0) = 0 := by
  unfold dotc
  have : ∀ k, k < (List.replicate n (0 : Int)).length → (List.replicate n (0 : Int)).getD k 0 * c k = 0 := fun k _ => by
    rw [List.getD_eq_getElem?_getD, List.getElem?_replicate]
    split <;> exact Int.zero_mul _
  rw [sm_congr this, sm_zero]
theorem dotc_ts {c : Nat → Int} (r : List Int) {e : Int} (he : 0 < e) (sg : Int) (l : List Int) (items : List (List Int)) : ∀ i, dotc c (tsGo r e sg l items i) = sm i (fun a => sm (items.getD a []).length (fun m => (items.getD a []).getD m 0 * c ((sg * pairL r e ((placesL r).getD a []) l + (m : Int)) % e).toNat))
  | 0 => dotc_zero _ _
  | i + 1 => by
    show dotc c (addN e (sg * pairL r e ((placesL r).getD i []) l) (items.getD i []) (tsGo r e sg l items i) (items.getD i []).length) = sm i _ + _
    rw [dotc_add he (tsGo_len' _ _ _ _ _ _), dotc_ts r he sg l items i]
/-- the items of vectors -/
abbrev wv (items : List (List Int)) (i k : Nat) : Int := (items.getD i []).getD k 0
abbrev pl (r : List Int) (i : Nat) : List Int := (placesL r).getD i []
abbrev Tq (r : List Int) (sg : Int) (l : List Int) (W : Nat → Nat → Int) (j : Nat) : Int := TSf r (ordL r) (dg r) (polyL (ordL r)) (fun i => (placesL r).getD i []) (placesL r).length sg l W j
theorem poly_len {r : List Int} (h : r ∈ RR) : 2 ≤ (polyL (ordL r)).length ∧ dg r = (unitsL (ordL r)).length ∧ (polyL (ordL r)).length ≤ (ordL r).toNat := by
  obtain ⟨t, ht, te⟩ := er_tab _ (ord_er r h)
  have ok := tabs_ok t ht
  have sml := tab_sm t ht
  have ep : polyL (ordL r) = t.2.1 := by rw [← te]; exact ok.1
  show 2 ≤ (polyL (ordL r)).length ∧ (polyL (ordL r)).length - 1 = _ ∧ _
  rw [ep, ← te]
  exact ⟨sml.2.1, sml.2.2.1, sml.2.2.2.1⟩
theorem redL_len' {xs dv : List Int} (h : 1 ≤ dv.length) : (redL xs dv).length = dv.length - 1 := by
  have gl : ∀ n rest quo, rest.length = (dv.length - 1) + n → (divGo (dv.length - 1) dv n rest quo).2.length = dv.length - 1 := by
    intro n
    induction n with
    | zero => intro rest quo h; simpa [divGo] using h
    | succ n ih =>
      intro rest quo h
      unfold divGo
      refine ih _ _ ?_
      show (subN _ _ _ _ _).length = _
      rw [subN_len', List.length_dropLast]
      omega
  have hl : (divL xs dv).2.length ≤ dv.length - 1 := by
    by_cases h2 : dv.length - 1 ≤ xs.length
    · have := gl (xs.length - (dv.length - 1)) xs [] (by omega)
      show (divGo (dv.length - 1) dv (xs.length - (dv.length - 1)) xs []).2.length ≤ _
      omega
    · have e : xs.length - (dv.length - 1) = 0 := by omega
      unfold divL
      rw [e]
      show xs.length ≤ _
      omega
  unfold redL
  rw [List.length_append, List.length_replicate]
  omega
theorem tsL_len' {r : List Int} (h : r ∈ RR) (sg : Int) (l : List Int) (items : List (List Int)) : (tsL r sg l items).length = dg r := redL_len' (by have := poly_len h; omega)
theorem tsL_co {r : List Int} (h : r ∈ RR) (sg : Int) (l : List Int) {items : List (List Int)} (hn : items.length = (placesL r).length) (hi : ∀ t ∈ items, t.length = dg r) {j : Nat} (hj : j < dg r) : (tsL r sg l items).getD j 0 = Tq r sg l (wv items) j := by
  have B := tabs_of h
  have he := B.e0
  unfold tsL
  rw [red_ph (by have := poly_len h; omega) hj]
  show dotc (Tz (dg r) (polyL (ordL r)) j) _ = _
  rw [dotc_ts r he, hn]
  refine sm_congr fun a ha => ?_
  have la : (items.getD a []).length = dg r := by
    rw [List.getD_eq_getElem?_getD, List.getElem?_eq_getElem (by omega)]
    exact hi _ (List.getElem_mem _)
  rw [la]
  refine sm_congr fun m hm => ?_
  show _ * Tz (dg r) (polyL (ordL r)) j _ = _ * Tz (dg r) (polyL (ordL r)) j _
  congr 1
  refine T_eqv (e := (ordL r).toNat) (B.per j hj) ?_
  have h1 : ((ordL r).toNat : Int) = ordL r := by omega
  have g : ((((sg * pairL r (ordL r) ((placesL r).getD a []) l + (m : Int)) % ordL r).toNat % (ordL r).toNat : Nat) : Int) = ((pw r (ordL r) sg ((placesL r).getD a []) l + m) % (ordL r).toNat : Nat) := by
    rw [Int.natCast_emod, Int.natCast_emod, Int.natCast_add, pw_cast he, h1, modn he, Int.emod_emod_of_dvd _ (Int.dvd_refl _), Int.emod_add_emod]
  exact_mod_cast g
/-! ### fractions of vectors -/
/-- a number is the vector w over M -/
def Rp (d : Nat) (n : Num) (M : Int) (w : Nat → Int) : Prop := ∀ k, k < d → n.2 * w k = M * n.1.getD k 0
structure NumC (d : Nat) (n : Num) : Prop where
  len : n.1.length = d
  pos : 1 ≤ n.2
  low : lowL n.1 n.2 = n
theorem icancel {a b c : Int} (h : 1 ≤ c) (e : c * a = c * b) : a = b := Int.eq_of_mul_eq_mul_left (by omega) e
theorem Rp_of_low {d : Nat} {v : List Int} {b M : Int} {w : Nat → Int} (hb : 1 ≤ b) (h : ∀ k, k < d → b * w k = M * v.getD k 0) : Rp d (lowL v b) M w := fun k hk => by
  refine icancel hb ?_
  have c := low_cross (v := v) hb k
  have e1 : b * ((lowL v b).2 * w k) = (lowL v b).2 * (b * w k) := by rw [← Int.mul_assoc, Int.mul_comm b, Int.mul_assoc]
  rw [e1, h k hk, ← Int.mul_assoc, Int.mul_comm _ M, Int.mul_assoc, c, ← Int.mul_assoc, ← Int.mul_assoc, Int.mul_comm M]
theorem numC_low {d : Nat} {v : List Int} {b : Int} (hb : 1 ≤ b) (hl : v.length = d) : NumC d (lowL v b) := ⟨by rw [low_len, hl], low_pos hb, low_low hb⟩
theorem Rp_eq {d : Nat} {a b : Num} {M : Int} {w : Nat → Int} (hM : 1 ≤ M) (ha : NumC d a) (hb : NumC d b) (ra : Rp d a M w) (rb : Rp d b M w) : a = b := by
  rw [← ha.low, ← hb.low]
  refine low_eq ha.pos hb.pos (by rw [ha.len, hb.len]) fun j hj => ?_
  rw [ha.len] at hj
  refine icancel hM ?_
  have e1 := ra j hj
  have e2 := rb j hj
  have c1 : M * (b.2 * a.1.getD j 0) = b.2 * (M * a.1.getD j 0) := by rw [← Int.mul_assoc, Int.mul_comm M, Int.mul_assoc]
  have c2 : M * (a.2 * b.1.getD j 0) = a.2 * (M * b.1.getD j 0) := by rw [← Int.mul_assoc, Int.mul_comm M, Int.mul_assoc]
  rw [c1, c2, ← e1, ← e2, ← Int.mul_assoc, ← Int.mul_assoc, Int.mul_comm a.2]
theorem Rp_congr {d : Nat} {n : Num} {M : Int} {w w' : Nat → Int} (h : ∀ k, k < d → w k = w' k) (r : Rp d n M w) : Rp d n M w' := fun k hk => by rw [← h k hk, r k hk]
theorem Rp_mul {d : Nat} {n : Num} {M : Int} {w : Nat → Int} (c : Int) (r : Rp d n M w) : Rp d n (M * c) (fun k => c * w k) := fun k hk => by
  rw [← Int.mul_assoc, Int.mul_comm n.2, Int.mul_assoc, r k hk, ← Int.mul_assoc, Int.mul_comm c]
theorem Rp_self (d : Nat) (n : Num) : Rp d n n.2 (fun k => n.1.getD k 0) := fun _ _ => rfl
theorem sumT_get {a b : Num} {sg : Int} {k : Nat} (h : k < a.1.length) : (sumT a b sg).getD k 0 = a.1.getD k 0 * b.2 + sg * b.1.getD k 0 * a.2 := by
  unfold sumT
  rw [List.getD_eq_getElem?_getD, List.getElem?_map, List.getElem?_range h]
  rfl
theorem sumT_len (a b : Num) (sg : Int) : (sumT a b sg).length = a.1.length := by simp [sumT]
theorem numC_sum {d : Nat} {a b : Num} (ha : NumC d a) (hb : NumC d b) (sg : Int) : NumC d (sumN a b sg) := numC_low (by have := Int.mul_le_mul ha.pos hb.pos (by omega) (by have := ha.pos; omega); omega) (by rw [sumT_len, ha.len])
theorem mul1 {a b : Int} (ha : 1 ≤ a) (hb : 1 ≤ b) : 1 ≤ a * b := by
  have := Int.mul_le_mul ha hb (by omega) (by omega)
  omega
theorem Rp_sum {d : Nat} {a b : Num} {M N : Int} {u v : Nat → Int} (ha : NumC d a) (hb : NumC d b) (ra : Rp d a M u) (rb : Rp d b N v) : Rp d (sumN a b 1) (M * N) (fun k => N * u k + M * v k) := by
  refine Rp_of_low (mul1 ha.pos hb.pos) fun k hk => ?_
  rw [sumT_get (by rw [ha.len]; exact hk)]
  have e1 := ra k hk
  have e2 := rb k hk
  generalize a.1.getD k 0 = x at e1 ⊢
  generalize b.1.getD k 0 = y at e2 ⊢
  generalize u k = U at e1 ⊢
  generalize v k = V at e2 ⊢
  generalize a.2 = A at e1 ⊢
  generalize b.2 = B at e2 ⊢
  rw [Int.mul_add, Int.mul_add, Int.one_mul]
  have f1 : A * B * (N * U) = M * N * (x * B) := by
    have : A * B * (N * U) = B * N * (A * U) := by ac_rfl
    rw [this, e1]
    ac_rfl
  have f2 : A * B * (M * V) = M * N * (y * A) := by
    have : A * B * (M * V) = A * M * (B * V) := by ac_rfl
    rw [this, e2]
    ac_rfl
  rw [f1, f2]
/-! ### products -/
def mv (r : List Int) (a : List Int) (v : Nat → Int) (j : Nat) : Int := sm (dg r) (fun i => a.getD i 0 * tn (dg r) (polyL (ordL r)) i v j)
theorem mulR_len' (one : Int) (i : Nat) (others tot : List Int) : ∀ k, (mulR one i others tot k).length = tot.length
  | 0 => rfl
  | k + 1 => by
    show (List.set _ _ _).length = _
    rw [List.length_set, mulR_len' one i others tot k]
theorem mulGo_len' (ones others : List Int) : ∀ i, (mulGo ones others i).length = ones.length + others.length - 1
  | 0 => by simp [mulGo]
  | i + 1 => by
    show (mulR _ _ _ _ _).length = _
    rw [mulR_len', mulGo_len' ones others i]
theorem dotc_mulR {c : Nat → Int} (one : Int) (i : Nat) (others tot : List Int) : ∀ k, i + k ≤ tot.length → dotc c (mulR one i others tot k) = dotc c tot + sm k (fun m => one * others.getD m 0 * c (i + m))
  | 0, _ => by show dotc c tot = dotc c tot + 0; omega
  | k + 1, h => by
    have ih := dotc_mulR (c := c) one i others tot k (by omega)
    show dotc c ((mulR one i others tot k).set (i + k) ((mulR one i others tot k).getD (i + k) 0 + one * others.getD k 0)) = dotc c tot + (sm k (fun m => one * others.getD m 0 * c (i + m)) + one * others.getD k 0 * c (i + k))
    have st : dotc c ((mulR one i others tot k).set (i + k) ((mulR one i others tot k).getD (i + k) 0 + one * others.getD k 0)) = dotc c (mulR one i others tot k) + one * others.getD k 0 * c (i + k) := by
      unfold dotc
      rw [List.length_set, sm_set (by rw [mulR_len']; omega)]
      congr 2
      omega
    rw [st, ih]
    omega
theorem dotc_mulGo {c : Nat → Int} (ones others : List Int) : ∀ i, i ≤ ones.length → dotc c (mulGo ones others i) = sm i (fun a => sm others.length (fun m => ones.getD a 0 * others.getD m 0 * c (a + m)))
  | 0, _ => dotc_zero _ _
  | i + 1, h => by
    show dotc c (mulR (ones.getD i 0) i others (mulGo ones others i) others.length) = sm i _ + _
    rw [dotc_mulR _ _ _ _ _ (by rw [mulGo_len']; omega), dotc_mulGo ones others i (by omega)]
theorem mulL_len {r : List Int} (h : r ∈ RR) (a b : List Int) : (mulL a b (polyL (ordL r))).length = dg r := redL_len' (by have := poly_len h; omega)
theorem mulL_co {r : List Int} (h : r ∈ RR) {a b : List Int} (ha : a.length = dg r) (hb : b.length = dg r) {j : Nat} (hj : j < dg r) : (mulL a b (polyL (ordL r))).getD j 0 = mv r a (fun k => b.getD k 0) j := by
  unfold mulL
  rw [red_ph (by have := poly_len h; omega) hj]
  show dotc (Tz (dg r) (polyL (ordL r)) j) _ = _
  rw [dotc_mulGo a b _ (Nat.le_refl _), ha, hb]
  refine sm_congr fun i _ => ?_
  unfold tn
  rw [← sm_mul]
  exact sm_congr fun k _ => Int.mul_assoc _ _ _
theorem mv_mul {r : List Int} (a : List Int) (c : Int) (v : Nat → Int) (j : Nat) : mv r a (fun k => c * v k) j = c * mv r a v j := by
  unfold mv
  rw [← sm_mul]
  refine sm_congr fun i _ => ?_
  rw [tn_mul, ← Int.mul_assoc, Int.mul_comm _ c, Int.mul_assoc]
theorem mv_congr {r : List Int} {a : List Int} {v w : Nat → Int} (h : ∀ k, k < dg r → v k = w k) (j : Nat) : mv r a v j = mv r a w j := sm_congr fun i _ => by rw [tn_congr h]
theorem numC_prod {r : List Int} (h : r ∈ RR) {a b : Num} (ha : NumC (dg r) a) (hb : NumC (dg r) b) : NumC (dg r) (prodL (ordL r) a b) := numC_low (mul1 ha.pos hb.pos) (mulL_len h _ _)
theorem Rp_prod {r : List Int} (h : r ∈ RR) {a b : Num} {N : Int} {v : Nat → Int} (ha : NumC (dg r) a) (hb : NumC (dg r) b) (rb : Rp (dg r) b N v) : Rp (dg r) (prodL (ordL r) a b) (a.2 * N) (mv r a.1 v) := by
  refine Rp_of_low (mul1 ha.pos hb.pos) fun j hj => ?_
  rw [mulL_co h ha.len hb.len hj]
  have e1 : b.2 * mv r a.1 v j = N * mv r a.1 (fun k => b.1.getD k 0) j := by
    rw [← mv_mul, ← mv_mul]
    exact mv_congr (fun k hk => rb k hk) j
  have : a.2 * b.2 * mv r a.1 v j = a.2 * (b.2 * mv r a.1 v j) := Int.mul_assoc _ _ _
  rw [this, e1, ← Int.mul_assoc]
theorem mv_TS {r : List Int} (h : r ∈ RR) (a : List Int) (sg : Int) (l : List Int) (W : Nat → Nat → Int) (j : Nat) : Tq r sg l (fun i => mv r a (W i)) j = mv r a (fun k => Tq r sg l W k) j := by
  have d1 := (tabs_of h).d1
  unfold Tq TSf mv
  have e1 : ∀ i, i < dg r → a.getD i 0 * tn (dg r) (polyL (ordL r)) i (fun k => sm (placesL r).length (fun i => tn (dg r) (polyL (ordL r)) (pw r (ordL r) sg ((placesL r).getD i []) l) (W i) k)) j = sm (placesL r).length (fun b => a.getD i 0 * tn (dg r) (polyL (ordL r)) i (tn (dg r) (polyL (ordL r)) (pw r (ordL r) sg ((placesL r).getD b []) l) (W b)) j) := fun i _ => by
    rw [tn_sm, sm_mul]
  rw [sm_congr e1, sm_swap]
  refine sm_congr fun b _ => ?_
  rw [tn_sm]
  refine sm_congr fun i _ => ?_
  rw [tn_mul, tn_tn _ _ _ _ _ _ d1, tn_tn _ _ _ _ _ _ d1, Nat.add_comm]
/-! ### rows -/
structure RowC (r : List Int) (ns : List Num) : Prop where
  len : ns.length = (placesL r).length
  num : ∀ n ∈ ns, NumC (dg r) n
theorem lcmI_dvdL (a b : Int) : a ∣ lcmI a b := by
  unfold lcmI
  refine Int.ofNat_dvd_right.mpr ?_
  rw [Nat.lcm_one_left]
  exact Nat.dvd_lcm_left _ _
theorem lcmI_dvdR (a b : Int) : b ∣ lcmI a b := by
  unfold lcmI
  refine Int.ofNat_dvd_right.mpr ?_
  exact Nat.dvd_lcm_right _ _
theorem lcmI_dvd {a b m : Int} (ha : a ∣ m) (hb : b ∣ m) : lcmI a b ∣ m := by
  unfold lcmI
  refine Int.ofNat_dvd_left.mpr ?_
  rw [Nat.lcm_one_left]
  exact Nat.lcm_dvd (Int.natAbs_dvd_natAbs.mpr ha) (Int.natAbs_dvd_natAbs.mpr hb)
theorem lcmI_pos {a b : Int} (ha : 1 ≤ a) (hb : 1 ≤ b) : 1 ≤ lcmI a b := by
  unfold lcmI
  rw [Nat.lcm_one_left]
  have := Nat.lcm_pos (show 0 < a.natAbs by omega) (show 0 < b.natAbs by omega)
  omega
theorem levGo_dvd : ∀ (ns : List Num) (b : Int), (b ∣ ns.foldl (fun b n => lcmI b n.2) b) ∧ ∀ n ∈ ns, n.2 ∣ ns.foldl (fun b n => lcmI b n.2) b
  | [], b => ⟨Int.dvd_refl _, fun n h => absurd h (by simp)⟩
  | x :: ns, b => by
    have ih := levGo_dvd ns (lcmI b x.2)
    refine ⟨Int.dvd_trans (lcmI_dvdL _ _) ih.1, fun n hn => ?_⟩
    rcases List.mem_cons.mp hn with rfl | hn
    · exact Int.dvd_trans (lcmI_dvdR _ _) ih.1
    · exact ih.2 n hn
theorem levGo_pos : ∀ (ns : List Num) (b : Int), 1 ≤ b → (∀ n ∈ ns, 1 ≤ n.2) → 1 ≤ ns.foldl (fun b n => lcmI b n.2) b
  | [], b, h, _ => h
  | x :: ns, b, h, hn => levGo_pos ns (lcmI b x.2) (lcmI_pos h (hn x List.mem_cons_self)) fun n hm => hn n (List.mem_cons_of_mem _ hm)
theorem levGo_le : ∀ (ns : List Num) (b m : Int), b ∣ m → (∀ n ∈ ns, n.2 ∣ m) → ns.foldl (fun b n => lcmI b n.2) b ∣ m
  | [], b, m, h, _ => h
  | x :: ns, b, m, h, hn => levGo_le ns (lcmI b x.2) m (lcmI_dvd h (hn x List.mem_cons_self)) fun n hm => hn n (List.mem_cons_of_mem _ hm)
theorem levB_dvd {ns : List Num} {n : Num} (h : n ∈ ns) : n.2 ∣ levB ns := (levGo_dvd ns 1).2 n h
theorem levB_pos {ns : List Num} (h : ∀ n ∈ ns, 1 ≤ n.2) : 1 ≤ levB ns := levGo_pos ns 1 (Int.le_refl _) h
theorem levB_le {ns : List Num} {m : Int} (h : ∀ n ∈ ns, n.2 ∣ m) : levB ns ∣ m := levGo_le ns 1 m (Int.one_dvd _) h
theorem levT_len (ns : List Num) : (levT ns).length = ns.length := by simp [levT]
theorem levT_get {ns : List Num} {i : Nat} {n : Num} (h : ns[i]? = some n) : (levT ns).getD i [] = n.1.map fun t => t * (levB ns / n.2) := by
  unfold levT
  rw [List.getD_eq_getElem?_getD, List.getElem?_map, h]
  rfl
theorem Rp_lev {r : List Int} {ns : List Num} {i : Nat} {n : Num} (C : RowC r ns) (h : ns[i]? = some n) : Rp (dg r) n (levB ns) (wv (levT ns) i) := fun k hk => by
  show n.2 * ((levT ns).getD i []).getD k 0 = _
  rw [levT_get h, getD_map (c := fun t => t * (levB ns / n.2)) (Int.zero_mul _)]
  have hm := List.mem_of_getElem? h
  have d := levB_dvd hm
  have e : n.2 * (levB ns / n.2) = levB ns := Int.mul_ediv_cancel' d
  rw [Int.mul_comm (n.1.getD k 0), ← Int.mul_assoc, e]
theorem levT_dg {r : List Int} {ns : List Num} (C : RowC r ns) : ∀ t ∈ levT ns, t.length = dg r := fun t ht => by
  unfold levT at ht
  obtain ⟨n, hn, rfl⟩ := List.mem_map.mp ht
  rw [List.length_map, (C.num n hn).len]
theorem get_lt {α : Type} {l : List α} {i : Nat} (h : i < l.length) : ∃ x, l[i]? = some x := ⟨_, List.getElem?_eq_getElem h⟩
theorem Rp_ts {r : List Int} (h : r ∈ RR) {ns : List Num} (C : RowC r ns) (sg : Int) (l : List Int) {M q : Int} {w : Nat → Nat → Int} (hM : 1 ≤ M) (hq : 1 ≤ q) (hw : ∀ (i : Nat) n, ns[i]? = some n → Rp (dg r) n M (w i)) :
    Rp (dg r) (lowL (tsL r sg l (levT ns)) (levB ns * q)) (M * q) (Tq r sg l w) := by
  have hB : 1 ≤ levB ns := levB_pos fun n hn => (C.num n hn).pos
  refine Rp_of_low (mul1 hB hq) fun j hj => ?_
  rw [tsL_co h sg l (by rw [levT_len, C.len]) (levT_dg C) hj]
  have e : levB ns * Tq r sg l w j = M * Tq r sg l (wv (levT ns)) j := by
    unfold Tq
    rw [← TSf_mul, ← TSf_mul]
    refine TSf_congr fun i hi k hk => ?_
    obtain ⟨n, hn⟩ := get_lt (show i < ns.length by rw [C.len]; exact hi)
    have e1 := hw i n hn k hk
    have e2 := Rp_lev C hn k hk
    have p := (C.num n (List.mem_of_getElem? hn)).pos
    refine icancel p ?_
    have f1 : n.2 * (levB ns * w i k) = levB ns * (n.2 * w i k) := by ac_rfl
    have f2 : n.2 * (M * wv (levT ns) i k) = M * (n.2 * wv (levT ns) i k) := by ac_rfl
    rw [f1, f2, e1, e2]
    ac_rfl
  have f1 : levB ns * q * Tq r sg l w j = q * (levB ns * Tq r sg l w j) := by ac_rfl
  have f2 : M * q * Tq r sg l (wv (levT ns)) j = q * (M * Tq r sg l (wv (levT ns)) j) := by ac_rfl
  rw [f1, f2, e]
theorem voL_get {r : List Int} {ns : List Num} {i : Nat} {n : Num} (h : (voL r ns)[i]? = some n) : i < (placesL r).length ∧ n = lowL (tsL r 1 (pl r i) (levT ns)) (levB ns * 1) := by
  unfold voL at h
  rw [List.getElem?_map] at h
  cases q : (placesL r)[i]? with
  | none => rw [q] at h; cases h
  | some l =>
    rw [q] at h
    refine ⟨(List.getElem?_eq_some_iff.mp q).1, ?_⟩
    rw [← Option.some.inj h, Int.mul_one]
    show lowL (tsL r 1 l (levT ns)) (levB ns) = lowL (tsL r 1 ((placesL r).getD i []) (levT ns)) (levB ns)
    rw [List.getD_eq_getElem?_getD, q]
    rfl
theorem rbL_get {r : List Int} {ns : List Num} {i : Nat} {n : Num} (h : (rbL r ns)[i]? = some n) : i < (placesL r).length ∧ n = lowL (tsL r (-1) (pl r i) (levT ns)) (levB ns * ((placesL r).length : Nat)) := by
  unfold rbL at h
  rw [List.getElem?_map] at h
  cases q : (placesL r)[i]? with
  | none => rw [q] at h; cases h
  | some l =>
    rw [q] at h
    refine ⟨(List.getElem?_eq_some_iff.mp q).1, ?_⟩
    rw [← Option.some.inj h]
    show _ = lowL (tsL r (-1) ((placesL r).getD i []) (levT ns)) _
    rw [List.getD_eq_getElem?_getD, q]
    rfl
theorem pl_pos : ∀ r ∈ RR, 1 ≤ (placesL r).length ∧ (placesL r).length ≤ 16 := by decide +kernel
theorem numC_ts {r : List Int} (h : r ∈ RR) {ns : List Num} (C : RowC r ns) (sg : Int) (l : List Int) {q : Int} (hq : 1 ≤ q) : NumC (dg r) (lowL (tsL r sg l (levT ns)) (levB ns * q)) :=
  numC_low (mul1 (levB_pos fun n hn => (C.num n hn).pos) hq) (tsL_len' h _ _ _)
theorem rowC_vo {r : List Int} (h : r ∈ RR) {ns : List Num} (C : RowC r ns) : RowC r (voL r ns) := by
  refine ⟨by simp [voL], fun n hn => ?_⟩
  obtain ⟨i, hi⟩ := List.getElem?_of_mem hn
  rw [(voL_get hi).2]
  exact numC_ts h C _ _ (by decide)
theorem rowC_rb {r : List Int} (h : r ∈ RR) {ns : List Num} (C : RowC r ns) : RowC r (rbL r ns) := by
  refine ⟨by simp [rbL], fun n hn => ?_⟩
  obtain ⟨i, hi⟩ := List.getElem?_of_mem hn
  rw [(rbL_get hi).2]
  exact numC_ts h C _ _ (by have := pl_pos r h; omega)
theorem Rp_vo {r : List Int} (h : r ∈ RR) {ns : List Num} (C : RowC r ns) {M : Int} {w : Nat → Nat → Int} (hM : 1 ≤ M) (hw : ∀ (i : Nat) n, ns[i]? = some n → Rp (dg r) n M (w i)) {i : Nat} {n : Num} (hn : (voL r ns)[i]? = some n) : Rp (dg r) n M (Tq r 1 (pl r i) w) := by
  rw [(voL_get hn).2, show M = M * 1 by omega]
  exact Rp_ts h C 1 _ hM (by decide) hw
theorem Rp_rb {r : List Int} (h : r ∈ RR) {ns : List Num} (C : RowC r ns) {M : Int} {w : Nat → Nat → Int} (hM : 1 ≤ M) (hw : ∀ (i : Nat) n, ns[i]? = some n → Rp (dg r) n M (w i)) {i : Nat} {n : Num} (hn : (rbL r ns)[i]? = some n) : Rp (dg r) n (M * ((placesL r).length : Nat)) (Tq r (-1) (pl r i) w) := by
  rw [(rbL_get hn).2]
  exact Rp_ts h C (-1) _ hM (by have := pl_pos r h; omega) hw
theorem rows_eq {r : List Int} {as bs : List Num} (ha : RowC r as) (hb : RowC r bs) {M : Int} {w : Nat → Nat → Int} (hM : 1 ≤ M) (h1 : ∀ (i : Nat) n, as[i]? = some n → Rp (dg r) n M (w i)) (h2 : ∀ (i : Nat) n, bs[i]? = some n → Rp (dg r) n M (w i)) : as = bs := by
  refine List.ext_getElem (by rw [ha.len, hb.len]) fun i i1 i2 => ?_
  exact Rp_eq hM (ha.num _ (List.getElem_mem _)) (hb.num _ (List.getElem_mem _)) (h1 i _ (List.getElem?_eq_getElem i1)) (h2 i _ (List.getElem?_eq_getElem i2))
/-- the row behind the voices is the row -/
theorem rb_vo {r : List Int} (h : r ∈ RR) {ns : List Num} (C : RowC r ns) : rbL r (voL r ns) = ns := by
  have hB : 1 ≤ levB ns := levB_pos fun n hn => (C.num n hn).pos
  have p := pl_pos r h
  refine rows_eq (rowC_rb h (rowC_vo h C)) C (mul1 hB (show (1 : Int) ≤ ((placesL r).length : Nat) by omega)) (w := fun i k => ((placesL r).length : Nat) * wv (levT ns) i k) (fun i n hn => ?_) (fun i n hn => ?_)
  · have q := Rp_rb h (rowC_vo h C) hB (w := fun li => Tq r 1 (pl r li) (wv (levT ns))) (fun li m hm => Rp_vo h C hB (fun a b hb => Rp_lev C hb) hm) hn
    refine Rp_congr (fun k hk => ?_) q
    exact inv_ts (tabs_of h) (.inr rfl) (rbL_get hn).1 (wv (levT ns)) hk
  · exact Rp_mul _ (Rp_lev C hn)
/-- the voices of the row behind a row are the row -/
theorem vo_rb {r : List Int} (h : r ∈ RR) {ns : List Num} (C : RowC r ns) : voL r (rbL r ns) = ns := by
  have hB : 1 ≤ levB ns := levB_pos fun n hn => (C.num n hn).pos
  have p := pl_pos r h
  have hM := mul1 hB (show (1 : Int) ≤ ((placesL r).length : Nat) by omega)
  refine rows_eq (rowC_vo h (rowC_rb h C)) C hM (w := fun i k => ((placesL r).length : Nat) * wv (levT ns) i k) (fun i n hn => ?_) (fun i n hn => ?_)
  · have q := Rp_vo h (rowC_rb h C) hM (w := fun li => Tq r (-1) (pl r li) (wv (levT ns))) (fun li m hm => Rp_rb h C hB (fun a b hb => Rp_lev C hb) hm) hn
    refine Rp_congr (fun k hk => ?_) q
    exact inv_ts (tabs_of h) (.inl rfl) (voL_get hn).1 (wv (levT ns)) hk
  · exact Rp_mul _ (Rp_lev C hn)
/-! ### the voice with the origin -/
def vecL (d : Nat) (f : Nat → Int) : List Int := (List.range d).map f
theorem vecL_get {d : Nat} {f : Nat → Int} {k : Nat} (h : k < d) : (vecL d f).getD k 0 = f k := by
  unfold vecL
  rw [List.getD_eq_getElem?_getD, List.getElem?_map, List.getElem?_range h]
  rfl
theorem TS_org {r : List Int} (h : r ∈ RR) (W : Nat → Nat → Int) {j : Nat} (hj : j < dg r) : Tq r 1 (pl r 0) W j = sm (placesL r).length (fun i => W i j) := by
  refine sm_congr fun i hi => ?_
  have : pw r (ordL r) 1 ((placesL r).getD i []) (pl r 0) = 0 := by
    unfold pw
    rw [org_ok r h _ (by rw [List.getD_eq_getElem?_getD, List.getElem?_eq_getElem hi]; exact List.getElem_mem _)]
    rfl
  rw [this, tn_zero hj]
def totL (r : List Int) (ns : List Num) : Num := ns.foldl (fun t n => sumN t n 1) (List.replicate (dg r) 0, 1)
theorem numC_zero (d : Nat) : NumC d (List.replicate d 0, 1) := by
  refine ⟨by simp, Int.le_refl _, ?_⟩
  have g := lowC_dvd (List.replicate d (0 : Int)) 1
  have p := lowC_pos (List.replicate d (0 : Int)) 1 (Int.le_refl _)
  have e : lowC (List.replicate d (0 : Int)) 1 = 1 := by
    have := Int.le_of_dvd (by decide) g.1
    omega
  unfold lowL
  rw [e]
  simp
theorem numC_tot {r : List Int} {ns : List Num} (C : ∀ n ∈ ns, NumC (dg r) n) : ∀ i, NumC (dg r) (totL r (ns.take i))
  | 0 => numC_zero _
  | i + 1 => by
    rw [List.take_succ]
    cases e : ns[i]? with
    | none => simpa using numC_tot C i
    | some n =>
      show NumC (dg r) ((ns.take i ++ [n]).foldl _ _)
      rw [List.foldl_append]
      exact numC_sum (numC_tot C i) (C n (List.mem_of_getElem? e)) 1
theorem Rp_cancel {d : Nat} {n : Num} {M c : Int} {w : Nat → Int} (hc : 1 ≤ c) (q : Rp d n (c * M) (fun k => c * w k)) : Rp d n M w := fun k hk => by
  refine icancel hc ?_
  have := q k hk
  have f1 : c * (n.2 * w k) = n.2 * (c * w k) := by ac_rfl
  rw [f1, this, Int.mul_assoc]
theorem Rp_tot {r : List Int} {ns : List Num} (C : RowC r ns) : ∀ i, i ≤ ns.length → Rp (dg r) (totL r (ns.take i)) (levB ns) (fun k => sm i (fun a => wv (levT ns) a k))
  | 0, _ => fun k hk => by
    show (1 : Int) * 0 = levB ns * (List.replicate (dg r) (0 : Int)).getD k 0
    rw [List.getD_eq_getElem?_getD, List.getElem?_replicate]
    simp [hk]
  | i + 1, hi => by
    have hB : 1 ≤ levB ns := levB_pos fun n hn => (C.num n hn).pos
    have ih := Rp_tot C i (by omega)
    obtain ⟨n, hn⟩ := get_lt (show i < ns.length by omega)
    rw [List.take_succ, hn]
    show Rp (dg r) ((ns.take i ++ [n]).foldl _ _) _ _
    rw [List.foldl_append]
    have q := Rp_sum (numC_tot C.num i) (C.num n (List.mem_of_getElem? hn)) ih (Rp_lev C hn)
    refine Rp_cancel (c := levB ns) hB ?_
    refine Rp_congr (fun k hk => ?_) q
    show _ = levB ns * (sm i (fun a => wv (levT ns) a k) + wv (levT ns) i k)
    rw [Int.mul_add]
/-- the voice with the origin is the sum of the items -/
theorem vo_org {r : List Int} (h : r ∈ RR) {ns : List Num} (C : RowC r ns) : lowL (tsL r 1 (pl r 0) (levT ns)) (levB ns) = totL r ns := by
  have hB : 1 ≤ levB ns := levB_pos fun n hn => (C.num n hn).pos
  have q := Rp_ts h C 1 (pl r 0) hB (Int.le_refl 1) (fun i n hn => Rp_lev C hn)
  have nc := numC_ts h C 1 (pl r 0) (Int.le_refl 1)
  rw [Int.mul_one] at q
  rw [Int.mul_one] at nc
  have t := Rp_tot C ns.length (Nat.le_refl _)
  have tc := numC_tot C.num ns.length
  rw [List.take_length] at t tc
  refine Rp_eq hB nc tc q (Rp_congr (fun k hk => ?_) t)
  rw [TS_org h _ hk, C.len]
/-! ### sums and multiples -/
def nearL (r : List Int) (c : Num) (xs ys : List Num) : List Num := List.zipWith (fun x y => sumN x (prodL (ordL r) c y) 1) xs ys
theorem nearL_get {r : List Int} {c : Num} {xs ys : List Num} {i : Nat} {n : Num} (h : (nearL r c xs ys)[i]? = some n) : ∃ x y, xs[i]? = some x ∧ ys[i]? = some y ∧ n = sumN x (prodL (ordL r) c y) 1 := by
  unfold nearL at h
  rw [List.getElem?_zipWith] at h
  cases e1 : xs[i]? with
  | none => rw [e1] at h; cases h
  | some x =>
    cases e2 : ys[i]? with
    | none => rw [e1, e2] at h; cases h
    | some y =>
      rw [e1, e2] at h
      exact ⟨x, y, rfl, rfl, (Option.some.inj h).symm⟩
theorem rowC_near {r : List Int} (h : r ∈ RR) {c : Num} (hc : NumC (dg r) c) {xs ys : List Num} (X : RowC r xs) (Y : RowC r ys) : RowC r (nearL r c xs ys) := by
  refine ⟨by unfold nearL; rw [List.length_zipWith, X.len, Y.len]; omega, fun n hn => ?_⟩
  obtain ⟨i, hi⟩ := List.getElem?_of_mem hn
  obtain ⟨x, y, e1, e2, rfl⟩ := nearL_get hi
  exact numC_sum (X.num x (List.mem_of_getElem? e1)) (numC_prod h hc (Y.num y (List.mem_of_getElem? e2))) 1
theorem Rp_near {r : List Int} (h : r ∈ RR) {c : Num} (hc : NumC (dg r) c) {xs ys : List Num} (X : RowC r xs) (Y : RowC r ys) {M N : Int} {u v : Nat → Nat → Int} (hu : ∀ (i : Nat) n, xs[i]? = some n → Rp (dg r) n M (u i)) (hv : ∀ (i : Nat) n, ys[i]? = some n → Rp (dg r) n N (v i))
    {i : Nat} {n : Num} (hn : (nearL r c xs ys)[i]? = some n) : Rp (dg r) n (M * (c.2 * N)) (fun k => c.2 * N * u i k + M * mv r c.1 (v i) k) := by
  obtain ⟨x, y, e1, e2, rfl⟩ := nearL_get hn
  have hy := Y.num y (List.mem_of_getElem? e2)
  exact Rp_sum (X.num x (List.mem_of_getElem? e1)) (numC_prod h hc hy) (hu i x e1) (Rp_prod h hc hy (hv i y e2))
/-- the voices of sums and multiples are the sums and multiples -/
theorem vo_near {r : List Int} (h : r ∈ RR) {c : Num} (hc : NumC (dg r) c) {xs ys : List Num} (X : RowC r xs) (Y : RowC r ys) : voL r (nearL r c xs ys) = nearL r c (voL r xs) (voL r ys) := by
  have hA : 1 ≤ levB xs := levB_pos fun n hn => (X.num n hn).pos
  have hB : 1 ≤ levB ys := levB_pos fun n hn => (Y.num n hn).pos
  have hM : 1 ≤ levB xs * (c.2 * levB ys) := mul1 hA (mul1 hc.pos hB)
  refine rows_eq (rowC_vo h (rowC_near h hc X Y)) (rowC_near h hc (rowC_vo h X) (rowC_vo h Y)) hM (w := fun i => Tq r 1 (pl r i) (fun a k => c.2 * levB ys * wv (levT xs) a k + levB xs * mv r c.1 (wv (levT ys) a) k)) (fun i n hn => ?_) (fun i n hn => ?_)
  · exact Rp_vo h (rowC_near h hc X Y) hM (fun a m hm => Rp_near h hc X Y (fun i n e => Rp_lev X e) (fun i n e => Rp_lev Y e) hm) hn
  · have q := Rp_near h hc (rowC_vo h X) (rowC_vo h Y) (u := fun i => Tq r 1 (pl r i) (wv (levT xs))) (v := fun i => Tq r 1 (pl r i) (wv (levT ys))) (fun a m hm => Rp_vo h X hA (fun i n e => Rp_lev X e) hm) (fun a m hm => Rp_vo h Y hB (fun i n e => Rp_lev Y e) hm) hn
    refine Rp_congr (fun k hk => ?_) q
    unfold Tq
    rw [TSf_add, TSf_mul, TSf_mul]
    congr 2
    exact (mv_TS h c.1 1 (pl r i) (wv (levT ys)) k).symm
end K45

/-! The law's ring polynomials. -/
namespace K45
def divsL (e : Int) : List Int := (rgL 1 e.toNat).filter fun d => decide (e % d = 0)
/-- one division from above: what is left, and what was found -/
def rkL (by_ left : List Int) : Nat → List Int × List Int
  | 0 => (left, [])
  | m + 1 => (subN ((rkL by_ left m).1.getD (left.length - by_.length - m + by_.length - 1) 0) by_ (left.length - by_.length - m) (rkL by_ left m).1 by_.length,
      (rkL by_ left m).2 ++ [(rkL by_ left m).1.getD (left.length - by_.length - m + by_.length - 1) 0])
def rstep (left by_ : List Int) : List Int := (rkL by_ left (left.length - by_.length + 1)).2.reverse
def rflt (t : List (Int × List Int)) (d : Int) : List (Int × List Int) := t.filter fun p => decide (d % p.1 = 0)
def rinL (t : List (Int × List Int)) (d : Int) (j : Nat) : List Int := ((rflt t d).take j).foldl (fun left p => rstep left p.2) ([-1] ++ List.replicate (d - 1).toNat 0 ++ [1])
def rtab (e : Int) : Nat → List (Int × List Int)
  | 0 => []
  | i + 1 => rtab e i ++ [((divsL e).getD i 0, rinL (rtab e i) ((divsL e).getD i 0) (rflt (rtab e i) ((divsL e).getD i 0)).length)]
def okTab (t : List (Int × List Int)) : Bool := t.all fun p => decide (1 ≤ p.1) && (decide (2 ≤ p.2.length) && p.2.all fun x => decide (-1000 ≤ x) && decide (x ≤ 1000))
theorem lr_tab : ∀ e ∈ ER, ∀ i ∈ List.range ((divsL e).length + 1), okTab (rtab e i) = true ∧ (rtab e i).map (·.1) = (divsL e).take i ∧ (rtab e i).length < 60 := by decide +kernel
theorem lr_in : ∀ e ∈ ER, ∀ i ∈ List.range (divsL e).length, ∀ j ∈ List.range (rflt (rtab e i) ((divsL e).getD i 0)).length, ((rflt (rtab e i) ((divsL e).getD i 0)).getD j (0, [])).2.length ≤ (rinL (rtab e i) ((divsL e).getD i 0) j).length ∧ (rinL (rtab e i) ((divsL e).getD i 0) j).length ≤ 100 := by decide +kernel
theorem lr_divs : ∀ e ∈ ER, (∀ d ∈ divsL e, 1 ≤ d ∧ d ≤ 60) ∧ (divsL e).length < 60 ∧ (divsL e).Pairwise (· < ·) ∧ 1 ≤ (divsL e).length := by decide +kernel
theorem lr_end : ∀ e ∈ ER, (e, polyL e) ∈ rtab e (divsL e).length := by decide +kernel
theorem rkL_len (by_ left : List Int) : ∀ m, (rkL by_ left m).1.length = left.length ∧ (rkL by_ left m).2.length = m
  | 0 => ⟨rfl, rfl⟩
  | m + 1 => by
    have ih := rkL_len by_ left m
    have gl : ∀ (h : Int) (dv : List Int) (a : Nat) (r : List Int) (k : Nat), (subN h dv a r k).length = r.length := by
      intro h dv a r k
      induction k with
      | zero => rfl
      | succ k ihk =>
        show (List.set _ _ _).length = _
        rw [List.length_set, ihk]
    refine ⟨?_, ?_⟩
    · show (subN _ _ _ _ _).length = _
      rw [gl, ih.1]
    · show (_ ++ [_]).length = _
      rw [List.length_append, ih.2]
      rfl
end K45

/-! The law's own remainder. -/
namespace K45
def mdGo (ring sums : List Int) : Nat → List Int
  | 0 => sums
  | m + 1 => if (mdGo ring sums m).getD (sums.length - 1 - m) 0 = 0 then mdGo ring sums m
    else subN ((mdGo ring sums m).getD (sums.length - 1 - m) 0) ring (sums.length - 1 - m - (ring.length - 1)) (mdGo ring sums m) ring.length
def mdL (ring sums : List Int) : List Int := ((mdGo ring sums (sums.length - (ring.length - 1))) ++ List.replicate (ring.length - 1) 0).take (ring.length - 1)
theorem mdGo_len (ring sums : List Int) : ∀ m, (mdGo ring sums m).length = sums.length
  | 0 => rfl
  | m + 1 => by
    show (if _ then _ else _ : List Int).length = _
    split
    · exact mdGo_len ring sums m
    · rw [subN_len', mdGo_len ring sums m]
theorem subN_get (h : Int) (dv : List Int) (a : Nat) (r : List Int) : ∀ k, a + k ≤ r.length → ∀ i, (subN h dv a r k).getD i 0 = r.getD i 0 - (if a ≤ i ∧ i < a + k then h * dv.getD (i - a) 0 else 0)
  | 0, _, i => by
    rw [if_neg (by omega)]
    show r.getD i 0 = _
    omega
  | k + 1, hk, i => by
    show ((subN h dv a r k).set (a + k) ((subN h dv a r k).getD (a + k) 0 - h * dv.getD k 0)).getD i 0 = _
    rw [getD_set (by rw [subN_len']; omega)]
    have ih := subN_get h dv a r k (by omega)
    by_cases e : i = a + k
    · subst e
      rw [if_pos rfl, ih, if_neg (by omega), if_pos (by omega), show a + k - a = k by omega]
      omega
    · rw [if_neg e, ih]
      by_cases q : a ≤ i ∧ i < a + k
      · rw [if_pos q, if_pos (by omega)]
      · rw [if_neg q, if_neg (by omega)]
theorem md_facts {ring sums : List Int} (h2 : 2 ≤ ring.length) (h1 : ring.getD (ring.length - 1) 0 = 1) (j : Nat) : ∀ m, m ≤ sums.length - (ring.length - 1) →
    ph (ring.length - 1) ring j (mdGo ring sums m) = ph (ring.length - 1) ring j sums ∧ ∀ i, sums.length - m ≤ i → (mdGo ring sums m).getD i 0 = 0
  | 0, _ => ⟨rfl, fun i hi => by
      show sums.getD i 0 = 0
      rw [List.getD_eq_getElem?_getD, List.getElem?_eq_none (by omega)]
      rfl⟩
  | m + 1, hm => by
    have ih := md_facts (sums := sums) h2 h1 j m (by omega)
    have ln := mdGo_len ring sums m
    have e0 : mdGo ring sums (m + 1) = if (mdGo ring sums m).getD (sums.length - 1 - m) 0 = 0 then mdGo ring sums m
      else subN ((mdGo ring sums m).getD (sums.length - 1 - m) 0) ring (sums.length - 1 - m - (ring.length - 1)) (mdGo ring sums m) ring.length := rfl
    rw [e0]
    by_cases z : (mdGo ring sums m).getD (sums.length - 1 - m) 0 = 0
    · rw [if_pos z]
      refine ⟨ih.1, fun i hi => ?_⟩
      by_cases q : i = sums.length - 1 - m
      · rw [q]; exact z
      · exact ih.2 i (by omega)
    · rw [if_neg z]
      generalize htop : (mdGo ring sums m).getD (sums.length - 1 - m) 0 = top at *
      generalize hR : mdGo ring sums m = R at *
      refine ⟨?_, fun i hi => ?_⟩
      · rw [ph_sub _ _ _ _ _ _ _ (by rw [ln]; omega), ih.1]
        have e1 : sm ring.length (fun k => ring.getD k 0 * Tz (ring.length - 1) ring j (sums.length - 1 - m - (ring.length - 1) + k)) = 0 := by
          obtain ⟨d, hd⟩ : ∃ d, ring.length = d + 1 := ⟨ring.length - 1, by omega⟩
          rw [hd] at h1 ⊢
          show sm d _ + ring.getD d 0 * Tz d ring j (sums.length - 1 - m - d + d) = 0
          rw [show d + 1 - 1 = d by omega] at h1
          rw [h1, T_rec]
          show sm d (fun k => ring.getD k 0 * Tz d ring j (sums.length - 1 - m - d + k)) + _ = 0
          omega
        rw [e1]
        omega
      · rw [subN_get _ _ _ _ _ (by rw [ln]; omega)]
        by_cases q : i = sums.length - 1 - m
        · have qt : R.getD i 0 = top := by rw [q]; exact htop
          rw [if_pos (by omega), qt, q, show sums.length - 1 - m - (sums.length - 1 - m - (ring.length - 1)) = ring.length - 1 by omega, h1]
          omega
        · rw [ih.2 i (by omega), if_neg (by omega)]
          rfl
theorem md_red {ring sums : List Int} (h2 : 2 ≤ ring.length) (h1 : ring.getD (ring.length - 1) 0 = 1) : mdL ring sums = redL sums ring := by
  have ln := mdGo_len ring sums (sums.length - (ring.length - 1))
  refine ext_getD ?_ fun j hj => ?_
  · rw [redL_len' (by omega)]
    unfold mdL
    rw [List.length_take, List.length_append, List.length_replicate]
    omega
  · have jd : j < ring.length - 1 := by
      unfold mdL at hj
      rw [List.length_take] at hj
      omega
    rw [red_ph (by omega) jd]
    have F := md_facts (sums := sums) h2 h1 j _ (Nat.le_refl _)
    rw [← F.1]
    unfold mdL
    generalize mdGo ring sums (sums.length - (ring.length - 1)) = R at F ln
    have e2 : ph (ring.length - 1) ring j R = R.getD j 0 := by
      have e : ph (ring.length - 1) ring j R = sm R.length (fun i => if i = j then R.getD i 0 else 0) := by
        unfold ph
        refine sm_congr fun i hi => ?_
        by_cases q : i < ring.length - 1
        · rw [T_lo q]
          by_cases h : i = j
          · rw [if_pos h, if_pos h]; omega
          · rw [if_neg h, if_neg h]; omega
        · rw [F.2 i (by omega), if_neg (by omega)]
          omega
      rw [e, sm_delta]
      by_cases h : j < R.length
      · rw [if_pos h]
      · rw [if_neg h, List.getD_eq_getElem?_getD, List.getElem?_eq_none (by omega)]
        rfl
    rw [e2, List.getD_eq_getElem?_getD, List.getElem?_take_of_lt jd, List.getD_eq_getElem?_getD]
    by_cases h : j < R.length
    · rw [List.getElem?_append_left h]
    · rw [List.getElem?_append_right (by omega), List.getElem?_eq_none (by omega : R.length ≤ j), List.getElem?_replicate]
      split <;> rfl
theorem er_mon : ∀ e ∈ ER, 2 ≤ (polyL e).length ∧ (polyL e).length ≤ 17 ∧ (polyL e).getD ((polyL e).length - 1) 0 = 1 ∧ ∀ d ∈ polyL e, -1000 ≤ d ∧ d ≤ 1000 := by decide +kernel
end K45

/-! How great the numbers get. -/
namespace K45
theorem sm_abs {f : Nat → Int} {c : Nat} : ∀ {n : Nat}, (∀ i, i < n → (f i).natAbs ≤ c) → (sm n f).natAbs ≤ n * c
  | 0, _ => by show (0 : Int).natAbs ≤ _; simp
  | n + 1, h => by
    have ih := sm_abs (n := n) fun i hi => h i (by omega)
    have hn := h n (by omega)
    show (sm n f + f n).natAbs ≤ (n + 1) * c
    rw [Nat.add_mul]
    have := Int.natAbs_add_le (sm n f) (f n)
    omega
theorem tabs_abs : ∀ t ∈ tabs, ∀ col ∈ t.2.2, ∀ x ∈ col, x.natAbs ≤ 2 := by decide +kernel
theorem T_abs {r : List Int} (h : r ∈ RR) {j : Nat} (hj : j < dg r) (i : Nat) : (Tz (dg r) (polyL (ordL r)) j i).natAbs ≤ 2 := by
  have B := tabs_of h
  obtain ⟨t, ht, te⟩ := er_tab _ (ord_er r h)
  have ok := tabs_ok t ht
  have ep : polyL (ordL r) = t.2.1 := by rw [← te]; exact ok.1
  have e0 := B.e0
  have hlt : i % (ordL r).toNat < (ordL r).toNat := Nat.mod_lt _ (by omega)
  have e1 : Tz (dg r) (polyL (ordL r)) j i = Tz (dg r) (polyL (ordL r)) j (i % (ordL r).toNat) := T_eqv (e := (ordL r).toNat) (B.per j hj) (Nat.mod_mod _ _).symm
  rw [e1]
  have hj' : j < t.2.1.length - 1 := by rw [← ep]; exact hj
  have e2 := tab_col ht hj' (i := i % (ordL r).toNat) (by rw [te]; omega)
  show (Tz ((polyL (ordL r)).length - 1) (polyL (ordL r)) j (i % (ordL r).toNat)).natAbs ≤ 2
  rw [ep, ← e2]
  have lc : t.2.2.length = t.2.1.length - 1 := by
    rw [ok.2]
    simp
  have hc : t.2.2.getD j [] ∈ t.2.2 := by
    rw [List.getD_eq_getElem?_getD, List.getElem?_eq_getElem (by omega)]
    exact List.getElem_mem _
  generalize t.2.2.getD j [] = col at hc
  rw [List.getD_eq_getElem?_getD]
  cases q : col[i % (ordL r).toNat]? with
  | none => simp
  | some x => exact tabs_abs t ht _ hc x (List.mem_of_getElem? q)
theorem dg_le {r : List Int} (h : r ∈ RR) : dg r ≤ 16 := by
  have := (er_mon _ (ord_er r h)).2.1
  show (polyL (ordL r)).length - 1 ≤ 16
  omega
theorem tn_abs {r : List Int} (h : r ∈ RR) (p : Nat) {v : Nat → Int} {M : Nat} (hv : ∀ k, k < dg r → (v k).natAbs ≤ M) {j : Nat} (hj : j < dg r) : (tn (dg r) (polyL (ordL r)) p v j).natAbs ≤ 32 * M := by
  have s : (tn (dg r) (polyL (ordL r)) p v j).natAbs ≤ dg r * (M * 2) := sm_abs fun k hk => by
    rw [Int.natAbs_mul]
    exact Nat.mul_le_mul (hv k hk) (T_abs h hj _)
  have e : dg r * (M * 2) ≤ 16 * (M * 2) := Nat.mul_le_mul_right _ (dg_le h)
  omega
theorem TS_abs {r : List Int} (h : r ∈ RR) (sg : Int) (l : List Int) {W : Nat → Nat → Int} {M : Nat} (hW : ∀ i, i < (placesL r).length → ∀ k, k < dg r → (W i k).natAbs ≤ M) {j : Nat} (hj : j < dg r) : (Tq r sg l W j).natAbs ≤ 512 * M := by
  have s : (Tq r sg l W j).natAbs ≤ (placesL r).length * (32 * M) := sm_abs fun i hi => tn_abs h _ (hW i hi) hj
  have e : (placesL r).length * (32 * M) ≤ 16 * (32 * M) := Nat.mul_le_mul_right _ (pl_pos r h).2
  omega
def Abs (M : Nat) (xs : List Int) : Prop := ∀ x ∈ xs, x.natAbs ≤ M
theorem Abs.get {M : Nat} {xs : List Int} (h : Abs M xs) (j : Nat) : (xs.getD j 0).natAbs ≤ M := by
  rw [List.getD_eq_getElem?_getD]
  cases q : xs[j]? with
  | none => simp
  | some x => exact h x (List.mem_of_getElem? q)
theorem Abs.of {M : Nat} {xs : List Int} (h : ∀ j, j < xs.length → (xs.getD j 0).natAbs ≤ M) : Abs M xs := fun x hx => by
  obtain ⟨j, hj⟩ := List.getElem?_of_mem hx
  have := h j (List.getElem?_eq_some_iff.mp hj).1
  rw [List.getD_eq_getElem?_getD, hj] at this
  exact this
theorem low_abs {v : List Int} {b : Int} {M : Nat} (hb : 1 ≤ b) (h : Abs M v) : Abs M (lowL v b).1 := fun t ht => by
  obtain ⟨x, hx, rfl⟩ := List.mem_map.mp ht
  have g := lowC_pos v b hb
  obtain ⟨c, hc⟩ := (lowC_dvd v b).2 x hx
  have e1 : x / lowC v b = c := by
    conv => lhs; lhs; rw [hc]
    exact Int.mul_ediv_cancel_left _ (by omega)
  rw [e1]
  have := h x hx
  rw [hc, Int.natAbs_mul] at this
  have g1 : 1 ≤ (lowC v b).natAbs := by omega
  have : 1 * c.natAbs ≤ (lowC v b).natAbs * c.natAbs := Nat.mul_le_mul_right _ g1
  omega
/-- rows with small bottoms -/
structure RowS (r : List Int) (D : Int) (ns : List Num) : Prop where
  c : RowC r ns
  d : ∀ n ∈ ns, n.2 ∣ D
theorem RowS.lev {r : List Int} {D : Int} {ns : List Num} (h : RowS r D ns) (hD : 1 ≤ D) (i : Nat) : 1 ≤ levB (ns.take i) ∧ levB (ns.take i) ∣ D ∧ levB (ns.take i) ≤ D := by
  have hm : ∀ n ∈ ns.take i, n ∈ ns := fun n hn => List.mem_of_mem_take hn
  have d := levB_le (ns := ns.take i) (m := D) fun n hn => h.d n (hm n hn)
  exact ⟨levB_pos fun n hn => (h.c.num n (hm n hn)).pos, d, Int.le_of_dvd (by omega) d⟩
theorem RowS.g {r : List Int} (hr : r ∈ RR) {D : Int} {ns : List Num} (h : RowS r D ns) (hD : 1 ≤ D) (hD2 : D ≤ 1000) : RowG r ns := by
  refine ⟨⟨h.c.len, fun n hn => ?_, fun i _ => ?_⟩, fun n hn => ?_⟩
  · have c := h.c.num n hn
    have := Int.le_of_dvd (by omega) (h.d n hn)
    exact ⟨c.pos, by omega, by rw [c.len]; have := dg_le hr; omega⟩
  · have := h.lev hD i
    exact ⟨this.1, by omega⟩
  · have c := h.c.num n hn
    have := Int.le_of_dvd (by omega) (h.d n hn)
    exact ⟨by rw [c.len, (poly_len hr).2.1], c.pos, by omega, c.low⟩
theorem rowS_vo {r : List Int} (hr : r ∈ RR) {D : Int} {ns : List Num} (h : RowS r D ns) (hD : 1 ≤ D) : RowS r D (voL r ns) := by
  refine ⟨rowC_vo hr h.c, fun n hn => ?_⟩
  obtain ⟨i, hi⟩ := List.getElem?_of_mem hn
  have l := h.lev hD ns.length
  rw [List.take_length] at l
  rw [(voL_get hi).2]
  refine Int.dvd_trans (low_dvd _ _ (by omega)) ?_
  rw [Int.mul_one]
  exact l.2.1
theorem rowS_rb {r : List Int} (hr : r ∈ RR) {D : Int} {ns : List Num} (h : RowS r D ns) (hD : 1 ≤ D) : RowS r (D * ((placesL r).length : Nat)) (rbL r ns) := by
  refine ⟨rowC_rb hr h.c, fun n hn => ?_⟩
  obtain ⟨i, hi⟩ := List.getElem?_of_mem hn
  have l := h.lev hD ns.length
  rw [List.take_length] at l
  have p := pl_pos r hr
  rw [(rbL_get hi).2]
  refine Int.dvd_trans (low_dvd _ _ (mul1 l.1 (by omega))) ?_
  exact Int.mul_dvd_mul_right _ l.2.1
theorem rowS_near {r : List Int} (hr : r ∈ RR) {c : Num} (hc : NumC (dg r) c) {D C : Int} (hcd : c.2 ∣ C) {xs ys : List Num} (X : RowS r D xs) (Y : RowS r D ys) : RowS r (D * (C * D)) (nearL r c xs ys) := by
  refine ⟨rowC_near hr hc X.c Y.c, fun n hn => ?_⟩
  obtain ⟨i, hi⟩ := List.getElem?_of_mem hn
  obtain ⟨x, y, e1, e2, rfl⟩ := nearL_get hi
  have mx := List.mem_of_getElem? e1
  have my := List.mem_of_getElem? e2
  have cx := X.c.num x mx
  have cy := Y.c.num y my
  have cp := numC_prod hr hc cy
  refine Int.dvd_trans (low_dvd _ _ (mul1 cx.pos cp.pos)) ?_
  refine Int.mul_dvd_mul (X.d x mx) ?_
  refine Int.dvd_trans (low_dvd _ _ (mul1 hc.pos cy.pos)) ?_
  exact Int.mul_dvd_mul hcd (Y.d y my)
/-! ### rows of no great ints -/
def AbsR (M : Nat) (ns : List Num) : Prop := ∀ n ∈ ns, Abs M n.1
theorem abs_lev {r : List Int} {ns : List Num} {M : Nat} (hD : levB ns ≤ 1000) (C : RowC r ns) (h : AbsR M ns) {i : Nat} (hi : i < (placesL r).length) (k : Nat) : (wv (levT ns) i k).natAbs ≤ M * 1000 := by
  obtain ⟨n, hn⟩ := get_lt (show i < ns.length by rw [C.len]; exact hi)
  have hm := List.mem_of_getElem? hn
  show (((levT ns).getD i []).getD k 0).natAbs ≤ _
  rw [levT_get hn, getD_map (c := fun t => t * (levB ns / n.2)) (Int.zero_mul _), Int.natAbs_mul]
  have p := (C.num n hm).pos
  have b1 : 1 ≤ levB ns := levB_pos fun n hn => (C.num n hn).pos
  have q0 : 0 ≤ levB ns / n.2 := Int.ediv_nonneg (by omega) (by omega)
  have q1 : levB ns / n.2 ≤ levB ns := Int.ediv_le_self _ (by omega)
  exact Nat.mul_le_mul ((h n hm).get k) (by omega)
theorem abs_ts {r : List Int} (hr : r ∈ RR) {ns : List Num} {M : Nat} (hD : levB ns ≤ 1000) (C : RowC r ns) (h : AbsR M ns) (sg : Int) (l : List Int) {b : Int} (hb : 1 ≤ b) : Abs (512000 * M) (lowL (tsL r sg l (levT ns)) b).1 := by
  refine low_abs hb (Abs.of fun j hj => ?_)
  rw [tsL_len' hr] at hj
  rw [tsL_co hr sg l (by rw [levT_len, C.len]) (levT_dg C) hj]
  have := TS_abs hr sg l (W := wv (levT ns)) (M := M * 1000) (fun i hi k _ => abs_lev hD C h hi k) hj
  omega
theorem abs_vo {r : List Int} (hr : r ∈ RR) {ns : List Num} {M : Nat} (hD : levB ns ≤ 1000) (C : RowC r ns) (h : AbsR M ns) : AbsR (512000 * M) (voL r ns) := fun n hn => by
  obtain ⟨i, hi⟩ := List.getElem?_of_mem hn
  rw [(voL_get hi).2]
  exact abs_ts hr hD C h _ _ (by have := levB_pos fun n hn => (C.num n hn).pos; omega)
theorem abs_rb {r : List Int} (hr : r ∈ RR) {ns : List Num} {M : Nat} (hD : levB ns ≤ 1000) (C : RowC r ns) (h : AbsR M ns) : AbsR (512000 * M) (rbL r ns) := fun n hn => by
  obtain ⟨i, hi⟩ := List.getElem?_of_mem hn
  have p := pl_pos r hr
  rw [(rbL_get hi).2]
  exact abs_ts hr hD C h _ _ (mul1 (levB_pos fun n hn => (C.num n hn).pos) (by omega))
theorem abs_sum {d : Nat} {a b : Num} {M N : Nat} (ha : NumC d a) (hb : NumC d b) (h1 : a.2 ≤ 1000) (h2 : b.2 ≤ 1000) (ma : Abs M a.1) (mb : Abs N b.1) : Abs (1000 * M + 1000 * N) (sumN a b 1).1 := by
  refine low_abs (mul1 ha.pos hb.pos) (Abs.of fun j hj => ?_)
  rw [sumT_len] at hj
  rw [sumT_get hj, Int.one_mul]
  have p1 := ha.pos
  have p2 := hb.pos
  have e1 : (a.1.getD j 0 * b.2).natAbs ≤ M * 1000 := by
    rw [Int.natAbs_mul]
    exact Nat.mul_le_mul (ma.get j) (by omega)
  have e2 : (b.1.getD j 0 * a.2).natAbs ≤ N * 1000 := by
    rw [Int.natAbs_mul]
    exact Nat.mul_le_mul (mb.get j) (by omega)
  have := Int.natAbs_add_le (a.1.getD j 0 * b.2) (b.1.getD j 0 * a.2)
  omega
theorem abs_prod {r : List Int} (hr : r ∈ RR) {a b : Num} {M N : Nat} (ha : NumC (dg r) a) (hb : NumC (dg r) b) (ma : Abs M a.1) (mb : Abs N b.1) : Abs (512 * (M * N)) (prodL (ordL r) a b).1 := by
  refine low_abs (mul1 ha.pos hb.pos) (Abs.of fun j hj => ?_)
  rw [mulL_len hr] at hj
  rw [mulL_co hr ha.len hb.len hj]
  have s : (mv r a.1 (fun k => b.1.getD k 0) j).natAbs ≤ dg r * (M * (32 * N)) := sm_abs fun i _ => by
    rw [Int.natAbs_mul]
    exact Nat.mul_le_mul (ma.get i) (tn_abs hr _ (fun k _ => mb.get k) hj)
  have e : dg r * (M * (32 * N)) ≤ 16 * (M * (32 * N)) := Nat.mul_le_mul_right _ (dg_le hr)
  have e2 : M * (32 * N) = 32 * (M * N) := by ac_rfl
  omega
theorem abs_near {r : List Int} (hr : r ∈ RR) {c : Num} (hc : NumC (dg r) c) {D C : Int} (hD : 1 ≤ D) (hC : 1 ≤ C) (hDC : C * D ≤ 1000) (hD2 : D ≤ 1000) (hcd : c.2 ∣ C) {xs ys : List Num} {M N : Nat} (X : RowS r D xs) (Y : RowS r D ys) (mc : Abs 3 c.1) (mx : AbsR M xs) (my : AbsR N ys) : AbsR (1000 * M + 1000 * (512 * (3 * N))) (nearL r c xs ys) := fun n hn => by
  obtain ⟨i, hi⟩ := List.getElem?_of_mem hn
  obtain ⟨x, y, e1, e2, rfl⟩ := nearL_get hi
  have m1 := List.mem_of_getElem? e1
  have m2 := List.mem_of_getElem? e2
  have cx := X.c.num x m1
  have cy := Y.c.num y m2
  have bx := Int.le_of_dvd (by omega) (X.d x m1)
  have pd : (prodL (ordL r) c y).2 ∣ C * D := Int.dvd_trans (low_dvd _ _ (mul1 hc.pos cy.pos)) (Int.mul_dvd_mul hcd (Y.d y m2))
  have pl := Int.le_of_dvd (by have := mul1 hC hD; omega) pd
  exact abs_sum cx (numC_prod hr hc cy) (by omega) (by omega) (mx x m1) (abs_prod hr hc cy mc (my y m2))
end K45

/-! The text by places; heaps. -/
namespace K45
open PySem PySem.Spec PyProof.Rows L2
def top (i : Nat) : Stmt := PySem.Challenge.pw_ringvoices_k45_whole_flat_rows.main.body.getD i (.Pass ⟨0, 0, 0, 0⟩)
abbrev sUnits : Stmt := top 3
abbrev sPrimes : Stmt := top 4
abbrev sPlaces : Stmt := top 16
abbrev sOrder : Stmt := top 17
abbrev sPaired : Stmt := top 18
abbrev sPoly : Stmt := top 20
abbrev sStr : Stmt := top 21
abbrev sDiv : Stmt := top 22
abbrev sRed : Stmt := top 23
abbrev sFInit : Stmt := inClass (top 29) 0
abbrev sFPair : Stmt := inClass (top 29) 1
abbrev sIsInt : Stmt := top 31
abbrev sIsInts : Stmt := top 32
abbrev sAre : Stmt := top 46
abbrev sSize : Stmt := top 47
abbrev sChkR : Stmt := top 48
abbrev sIsPl : Stmt := top 49
abbrev sChkP : Stmt := top 50
abbrev sOrdOf : Stmt := top 52
abbrev sMulP : Stmt := top 24
abbrev sLow : Stmt := top 27
abbrev sIsOrd : Stmt := top 36
abbrev sChkO : Stmt := top 37
abbrev sChkN : Stmt := top 38
abbrev sIsNum : Stmt := top 39
abbrev sProd : Stmt := top 41
abbrev sSizeOf : Stmt := top 51
abbrev sLev : Stmt := top 54
abbrev sTSum : Stmt := top 55
abbrev sVOf : Stmt := top 56
abbrev sIsRow : Stmt := top 58
abbrev sChkRow : Stmt := top 60
abbrev sFTops : Stmt := inClass (top 29) 2
abbrev sDeck : Stmt := top 69
abbrev sDraw : Stmt := top 70
abbrev sPick : Stmt := top 71
abbrev sLOrder : Stmt := top 75
abbrev sLPlaces : Stmt := top 74
abbrev sLNumber : Stmt := top 79
abbrev sLaw : Stmt := top 91
abbrev sNumOf : Stmt := top 40
abbrev sVoice : Stmt := top 63
abbrev sJudge : Stmt := top 65
abbrev sLouds : Stmt := top 66
abbrev sFlatH : Stmt := top 67
abbrev sLIsInt : Stmt := top 72
abbrev sLPairing : Stmt := top 76
abbrev sLVoice : Stmt := top 81
abbrev sLWhole : Stmt := top 82
abbrev sLIsPl : Stmt := top 83
abbrev sLDrawnW : Stmt := top 85
abbrev sLMovedW : Stmt := top 86
abbrev sLFlatW : Stmt := top 88
abbrev sLLoud : Stmt := top 89
abbrev sLRight : Stmt := top 90
abbrev sLoud : Stmt := top 42
abbrev sRowOf : Stmt := top 62
abbrev sIsWhole : Stmt := top 59
abbrev sChkWhole : Stmt := top 61
abbrev sLDiv : Stmt := top 73
abbrev sLPhi : Stmt := top 78
abbrev sLWorld : Stmt := top 80
abbrev sLCounted : Stmt := top 84
abbrev sLSmall : Stmt := top 87
abbrev sSpread : Stmt := top 25
abbrev sExT : Stmt := top 26
abbrev sLSum : Stmt := top 77
abbrev sFSeats : Stmt := inClass (top 29) 4
abbrev FnP (K : PySem.W.Frag) (x : Str) (st : Stmt) (f : Addr) (fd : FuncData) : Prop := FunD K x x (defArgs st) (defBody st) (defScope st) [] [] f fd
def blt : List Str := ["int", "bool", "list", "len", "isinstance", "tuple", "abs", "max", "min", "range", "repr", "sum", "all", "sorted", "set", "enumerate", "zip"]
/-- the names that the module leaves to the built-ins -/
def Bl (mg : Str → Option Value) : Prop := ∀ x ∈ blt, mg x = none
/-! ### heaps -/
theorem same_new {H H1 : Hp} {p : Addr} {o : HO} (e : Same H H1) (h : H1 p = none) : Same H (upd H1 p o) := fun b u q => by
  have q1 := e b u q
  rw [upd_ne (ne_of_none q1 h)]
  exact q1
theorem same_at {H H1 : Hp} {p : Addr} {o : HO} (e : Same H H1) (h : H p = none) : Same H (upd H1 p o) := fun b u q => by
  rw [upd_ne (ne_of_none q h)]
  exact e b u q
theorem same_upd {H : Hp} {p : Addr} {o : HO} (h : H p = none) : Same H (upd H p o) := same_new (Same.refl H) h
theorem SqT.ext {K : PySem.W.Frag} {H H' : Hp} {a : Addr} {xs : List V} (h : SqT K H a xs) (e : Same H H') : SqT K H' a xs := by
  rcases h with h | h
  · rcases h with h | ⟨o, h⟩
    · exact .inl (.inl (e _ _ h))
    · exact .inl (.inr ⟨o, e _ _ h⟩)
  · exact .inr h
theorem _root_.L2.Same.tup {K : PySem.W.Frag} {H H' : Hp} {a : Addr} {xs : List V} (e : Same H H') (h : SqT K H a xs) : SqT K H' a xs := SqT.ext h e
theorem _root_.L2.Same.tupI {K : PySem.W.Frag} {H H' : Hp} {v : V} {ns : List Int} (e : Same H H') (h : TupI K H v ns) : TupI K H' v ns := by
  obtain ⟨t, rfl, q⟩ := h
  exact ⟨t, rfl, SqT.ext q e⟩
theorem tupI_of {K : PySem.W.Frag} {H : Hp} {p : Addr} {ns : List Int} (h : H p = some (.tup (ns.map V.int))) : TupI K H (.ref p) ns := ⟨p, rfl, SqT.of h⟩
/-- tuples of ints, at their addresses -/
abbrev TL (K : PySem.W.Frag) (H : Hp) (ks : List (Addr × List Int)) : Prop := ∀ p ∈ ks, SqT K H p.1 (p.2.map V.int)
abbrev rf (ks : List (Addr × List Int)) : List V := ks.map fun p => V.ref p.1
theorem _root_.L2.Same.tl {K : PySem.W.Frag} {H H' : Hp} {ks : List (Addr × List Int)} (e : Same H H') (h : TL K H ks) : TL K H' ks := fun p hp => SqT.ext (h p hp) e
theorem tl_nil {K : PySem.W.Frag} {H : Hp} : TL K H [] := fun p hp => absurd hp (by simp)
theorem tl_snoc {K : PySem.W.Frag} {H : Hp} {ks : List (Addr × List Int)} {a : Addr} {ns : List Int} (h : TL K H ks) (q : SqT K H a (ns.map V.int)) : TL K H (ks ++ [(a, ns)]) := fun p hp => by
  rcases List.mem_append.mp hp with z | z
  · exact h p z
  · rw [List.mem_singleton.mp z]
    exact q
theorem sqt_at {K : PySem.W.Frag} {H : Hp} {a D : Addr} {xs ys : List V} {o : HO} (h : SqT K H a xs) (hD : H D = some (.lst ys)) : SqT K (upd H D o) a xs := by
  rcases h with h | h
  · rcases h with h | ⟨u, h⟩
    · exact .inl (.inl (by rw [upd_ne (ne_of h hD (by intro z; cases z))]; exact h))
    · exact .inl (.inr ⟨u, by rw [upd_ne (ne_of h hD (by intro z; cases z))]; exact h⟩)
  · exact .inr h
theorem tl_at {K : PySem.W.Frag} {H : Hp} {D : Addr} {ks : List (Addr × List Int)} {ys : List V} {o : HO} (h : TL K H ks) (hD : H D = some (.lst ys)) : TL K (upd H D o) ks := fun p hp => sqt_at (h p hp) hD
/-- tuples of ints that stand at their addresses as they are (fit to be keys) -/
structure TP (K : PySem.W.Frag) (H : Hp) (ks : List (Addr × List Int)) : Prop where
  out : ∀ p ∈ ks, H p.1 = some (.tup (p.2.map V.int))
theorem TP.tl {K : PySem.W.Frag} {H : Hp} {ks : List (Addr × List Int)} (h : TP K H ks) : ∀ p ∈ ks, SqT K H p.1 (p.2.map V.int) := fun p hp => SqT.of (h.out p hp)
instance {K : PySem.W.Frag} {H : Hp} {ks : List (Addr × List Int)} : CoeFun (TP K H ks) (fun _ => ∀ p ∈ ks, SqT K H p.1 (p.2.map V.int)) := ⟨TP.tl⟩
theorem tp_same {K : PySem.W.Frag} {H H' : Hp} {ks : List (Addr × List Int)} (e : Same H H') (h : TP K H ks) : TP K H' ks := ⟨fun p hp => e _ _ (h.out p hp)⟩
theorem tp_nil {K : PySem.W.Frag} {H : Hp} : TP K H [] := ⟨fun p hp => absurd hp (by simp)⟩
theorem tp_snoc {K : PySem.W.Frag} {H : Hp} {ks : List (Addr × List Int)} {a : Addr} {ns : List Int} (h : TP K H ks) (q : H a = some (.tup (ns.map V.int))) : TP K H (ks ++ [(a, ns)]) := ⟨fun p hp => by
  rcases List.mem_append.mp hp with z | z
  · exact h.out p z
  · rw [List.mem_singleton.mp z]
    exact q⟩
theorem tp_at {K : PySem.W.Frag} {H : Hp} {D : Addr} {ks : List (Addr × List Int)} {ys : List V} {o : HO} (h : TP K H ks) (hD : H D = some (.lst ys)) : TP K (upd H D o) ks := ⟨fun p hp => by
  rw [upd_ne (ne_of (h.out p hp) hD (by intro z; cases z))]
  exact h.out p hp⟩
/-- a list of places, at a -/
def PlL (K : PySem.W.Frag) (H : Hp) (a : Addr) (ps : List (List Int)) : Prop := ∃ ks, H a = some (.lst (rf ks)) ∧ ks.map (·.2) = ps ∧ TP K H ks
theorem _root_.L2.Same.pll {K : PySem.W.Frag} {H H' : Hp} {a : Addr} {ps : List (List Int)} (e : Same H H') (h : PlL K H a ps) : PlL K H' a ps := by
  obtain ⟨ks, h1, h2, h3⟩ := h
  exact ⟨ks, e _ _ h1, h2, tp_same e h3⟩
theorem getI {ns : List Int} {i : Nat} {y : V} (h : (ns.map V.int)[i]? = some y) : ∃ c, y = V.int c ∧ ns[i]? = some c := by
  rw [List.getElem?_map] at h
  cases e : ns[i]? with
  | none =>
    rw [e] at h
    cases h
  | some c =>
    rw [e] at h
    exact ⟨c, (Option.some.inj h).symm, rfl⟩
theorem getR {ks : List (Addr × List Int)} {i : Nat} {y : V} (h : (rf ks)[i]? = some y) : ∃ p, y = V.ref p.1 ∧ ks[i]? = some p := by
  rw [List.getElem?_map] at h
  cases e : ks[i]? with
  | none =>
    rw [e] at h
    cases h
  | some c =>
    rw [e] at h
    exact ⟨c, (Option.some.inj h).symm, rfl⟩
theorem ofI {ns : List Int} {i : Nat} {c : Int} (h : ns[i]? = some c) : (ns.map V.int)[i]? = some (V.int c) := by
  rw [List.getElem?_map, h]
  rfl
theorem takeS {α : Type} {l : List α} {i : Nat} {x : α} (h : l[i]? = some x) : l.take (i + 1) = l.take i ++ [x] := by
  rw [List.take_succ, h]
  rfl
theorem ltL {α : Type} {l : List α} {i : Nat} {x : α} (h : l[i]? = some x) : i < l.length := (List.getElem?_eq_some_iff.mp h).1
theorem sl_1000 {n : Nat} (h : n ≤ 100000) : n ≤ sizeLine := by
  rw [sizeLine_eq]
  omega
theorem sl_lt {n : Nat} (h : n ≤ 100000) : n < sizeLine := by
  rw [sizeLine_eq]
  omega
end K45

/-! The head, in pieces. -/
namespace K45
open PySem PySem.Spec PyProof.Rows L2
open_top hd0 for PySem.Challenge.rw_ringvoices_k45_whole_flat_rows
end K45

namespace K45
open PySem PySem.Spec PyProof.Rows L2
section
variable {P : Program} {w : World} {K : PySem.W.Frag} {mg : Str → Option Value} {base : Heap} {f : Addr} {fd : FuncData}
theorem eqI {a b : Int} (c : decide (V.int a = V.int b) = true) : a = b := V.int.inj (of_decide_eq_true c)
theorem neI {a b : Int} (c : ¬ decide (V.int a = V.int b) = true) : ¬ a = b := fun e => c (by rw [e]; exact decide_eq_true rfl)
/-! ### units_of -/
def spUnits : Sp := fun vs H Q _ => ∃ e : Int, vs = [.int e] ∧ 1 ≤ e ∧ e ≤ 60 ∧ ∀ p H', Same H H' → H p = none → H' p = some (.lst ((unitsL e).map V.int)) → Q (.ref p) H'
theorem scUnits : FnScope ["order", "j"] ["order"] (defScope sUnits) := ⟨rfl, rfl, rfl, by decide +kernel, rfl, by decide +kernel, by decide +kernel⟩
theorem rgF_succ (p : Int → Bool) (lo : Int) (n : Nat) : (rgL lo (n + 1)).filter p = if p (lo + (n : Int)) = true then (rgL lo n).filter p ++ [lo + (n : Int)] else (rgL lo n).filter p := by
  rw [rgL_succ, List.filter_append]
  by_cases h : p (lo + (n : Int)) = true
  · rw [if_pos h]
    simp [h]
  · rw [if_neg h]
    simp [h]
theorem ok_units (F : FnP K "units_of" sUnits f fd) (B : Bl mg) (gG : mg "gcd" = some (.builtin "math.gcd")) : FnOk P w K mg base CX0 1 f fd ["order"] spUnits := by
  refine F.ok scUnits (fun vs H Q E h => ?_) (fun cdv A outer s H vs Q E hr h => ?_)
  · obtain ⟨e, rfl, _⟩ := h
    rfl
  · obtain ⟨e, rfl, h1, h2, k⟩ := h
    refine ⟨_, PSs.nox (pss_one (ps_ret (pe_lc (own := [("j", 1)]) (g := gName 1) (te := tVar 1) rfl scUnits.nd (pi_range2 rfl (B "range" (by decide +kernel)) (pa_cons pe_int (pa_cons (pe_op op_add (pv 0) pe_int) pa_nil)))
      (blkOk_by (own := [("j", 1)]) (N := ["order", "j"]) (sc := defScope sUnits) (by decide +kernel)) (fun _ _ _ _ _ => pg_name (i := 1) scUnits.nd rfl (Or.inl rfl)) (fun _ _ _ _ _ => pts_one (pt_cmpR op_eq (pe_callBfun cr_gcd rfl gG (pa_cons (pv 1) (pa_cons (pv 0) pa_nil))) pe_int (nomark _))) (fun _ _ _ _ _ => pv 1)))), ?_⟩
    refine ⟨_, rfl, _, _, rfl, rfl, 1, e + 1, rfl, ⟨by omega, by omega, by omega, by omega⟩, fun D hD => ?_⟩
    have en : (e + 1 - 1).toNat = e.toNat := by
      congr 1
      omega
    rw [en]
    refine lc_range (lo := 1) (n := e.toNat) (fun i H2 => Same H H2 ∧ H2 D = some (.lst (((rgL 1 i).filter fun j => decide (gcdI j e = 1)).map V.int))) ⟨same_upd hD, upd_same⟩ ?_ ?_
    · rintro i H2 hi ⟨s2, h2⟩
      refine ⟨rfl, _, rfl, _, rfl, _, _, rfl, rfl, _, rfl, ?_⟩
      refine ite2 (fun c => ?_) (fun c => ?_)
      · have c1 : gcdI (1 + (i : Int)) e = 1 := eqI c
        refine ⟨_, rfl, _, h2, sl_lt ?_, same_at s2 hD, ?_⟩
        · rw [List.length_map]
          exact Nat.le_trans (List.length_filter_le _ _) (by rw [rgL_len]; omega)
        · rw [upd_same, rgF_succ, if_pos (decide_eq_true c1), List.map_append]
          rfl
      · have c1 : ¬ gcdI (1 + (i : Int)) e = 1 := neI c
        exact ⟨s2, by rw [rgF_succ, if_neg (by simp [c1])]; exact h2⟩
    · rintro H2 ⟨s2, h2⟩
      exact k D H2 s2 hD h2
end
end K45

namespace K45
open PySem PySem.Spec PyProof.Rows L2
abbrev rMod : R2 := rI (fun _ j => 0 < j) fun i j => .int (i % j)
abbrev rMul : R2 := rI CMul fun i j => .int (i * j)
abbrev rFdv : R2 := rI CDiv fun i j => .int (i / j)
abbrev rPlus : R2 := rI0 fun i j => .int (i + j)
abbrev rMinus : R2 := rI0 fun i j => .int (i - j)
section
variable {X : Cx}
def rLcm : List V → Hp → VK → Prop := fun vs H Q => ∃ a b : Int, vs = [.int a, .int b] ∧ a.natAbs < 2 ^ 64 ∧ b.natAbs < 2 ^ 64 ∧ (lcmI a b).natAbs ≤ 1000 ∧ Q (.int (lcmI a b)) H
theorem cr_lcm : CallR X (.builtin "math.lcm") rLcm := by
  intro pins s σ H vs us Q I r h
  obtain ⟨a, b, rfl, h1, h2, h3, q⟩ := h
  obtain ⟨t, u, rfl⟩ := Vals.int2 r
  exact PySem.W.mg_lcm h1 h2 (Nat.lt_of_le_of_lt (Nat.le_trans (Nat.log2_le_self _) h3) (by decide)) ⟨.int _, H, I.tok _, ⟨_, rfl⟩, q⟩
end
/-! ### facts of the fourteen rings -/
theorem rr_ord : ∀ r ∈ RR, ∀ i ∈ List.range (r.length + 1), (ordL (r.take i)).natAbs ≤ 60 := by decide +kernel
theorem rr_pos : ∀ r ∈ RR, ∀ l ∈ r, 2 ≤ l ∧ l ≤ 60 := by decide +kernel
theorem rr_len : ∀ r ∈ RR, 1 ≤ r.length ∧ r.length ≤ 4 := by decide +kernel
section
variable {P : Program} {w : World} {K : PySem.W.Frag} {mg : Str → Option Value} {base : Heap} {f : Addr} {fd : FuncData}
/-! ### common_order -/
def spOrder (K : PySem.W.Frag) : Sp := fun vs H Q _ => ∃ (v : V) (r : List Int), vs = [v] ∧ TupI K H v r ∧ r ∈ RR ∧ ∀ H', Same H H' → Q (.int (ordL r)) H'
theorem scOrder : FnScope ["rings", "order", "length"] ["rings"] (defScope sOrder) := ⟨rfl, rfl, rfl, by decide +kernel, rfl, by decide +kernel, by decide +kernel⟩
theorem ord_take {r : List Int} {i : Nat} {x : Int} (h : r[i]? = some x) : ordL (r.take (i + 1)) = lcmI (ordL (r.take i)) x := by
  rw [takeS h]
  unfold ordL
  rw [List.foldl_append]
  rfl
theorem ok_order (F : FnP K "common_order" sOrder f fd) (B : Bl mg) (gL : mg "lcm" = some (.builtin "math.lcm")) : FnOk P w K mg base CX0 1 f fd ["rings"] (spOrder K) := by
  refine F.ok scOrder (fun vs H Q E h => ?_) (fun cdv A outer s H vs Q E hr h => ?_)
  · obtain ⟨v, r, rfl, _⟩ := h
    rfl
  · obtain ⟨v, r, rfl, ⟨a, rfl, ha⟩, h14, k⟩ := h
    refine ⟨_, PSs.nox (pss_cons (ps_set (i := 1) scOrder.nd rfl (Or.inl rfl) pe_int)
      (pss_cons (ps_for PassesOwn.never rfl (pi_tup (pv 0)) (pg_name (i := 2) scOrder.nd rfl (Or.inl rfl)) (pss_one (ps_set (i := 1) scOrder.nd rfl (Or.inl rfl) (pe_callBfun cr_lcm rfl gL (pa_cons (pv 1) (pa_cons (pv 2) pa_nil))))))
      (pss_one (ps_ret (pv 1))))), ?_⟩
    refine ⟨_, rfl, a, rfl, ⟨_, ha⟩, for_tup (K := K) (a := a) (xs := r.map V.int) (fun i σ H2 => ∃ u, σ = [some (.ref a), some (.int (ordL (r.take i))), u] ∧ H2 = H) ⟨none, rfl, rfl⟩ (fun i σ H2 _ ⟨_, _, e⟩ => by rw [e]; exact ha) ?_ ?_⟩
    · rintro i y σ H2 hi ⟨u, rfl, rfl⟩
      obtain ⟨c, rfl, hc⟩ := getI hi
      have hl := ltL hc
      have hb := rr_pos r h14 c (List.mem_of_getElem? hc)
      have h1 := rr_ord r h14 i (List.mem_range.mpr (by omega))
      have h2 := rr_ord r h14 (i + 1) (List.mem_range.mpr (by omega))
      rw [ord_take hc] at h2
      exact ⟨_, rfl, _, rfl, _, _, rfl, by omega, by omega, by omega, some (.int c), by rw [ord_take hc]; rfl, rfl⟩
    · rintro σ H2 ⟨u, rfl, rfl⟩
      refine ⟨_, rfl, ?_⟩
      rw [List.length_map, List.take_length]
      exact k _ (Same.refl _)
/-! ### repeated -/
def spRep (K : PySem.W.Frag) : Sp := fun vs H Q _ => ∃ (v u : V) (r p : List Int) (j : Int), vs = [v, u, .int j] ∧ TupI K H v r ∧ TupI K H u p ∧ r ∈ RR ∧ p.length = r.length ∧ -1000 ≤ j ∧ j ≤ 1000 ∧ ∀ t H', Same H H' → H t = none → H' t = some (.tup ((repL r p j).map V.int)) → Q (.ref t) H'
theorem getD_of {l : List Int} {i : Nat} (h : i < l.length) : (l.map V.int)[i]? = some (V.int (l.getD i 0)) := by
  refine ofI ?_
  rw [List.getElem?_eq_getElem h, List.getD_eq_getElem?_getD, List.getElem?_eq_getElem h]
  rfl
theorem rr_get {r : List Int} (h : r ∈ RR) {i : Nat} (hi : i < r.length) : 2 ≤ r.getD i 0 ∧ r.getD i 0 ≤ 60 := by
  rw [List.getD_eq_getElem?_getD, List.getElem?_eq_getElem hi]
  exact rr_pos r h _ (List.getElem_mem hi)
end
end K45

namespace K45
open PySem PySem.Spec PyProof.Rows L2
section
variable {P : Program} {w : World} {K : PySem.W.Frag} {mg : Str → Option Value} {base : Heap} {f : Addr} {fd : FuncData}
/-! ### paired -/
def spPaired (K : PySem.W.Frag) : Sp := fun vs H Q _ => ∃ (v u z : V) (r p l : List Int) (e : Int), vs = [v, .int e, u, z] ∧ TupI K H v r ∧ TupI K H u p ∧ TupI K H z l ∧ r ∈ RR ∧ p.length = r.length ∧ l.length = r.length ∧ (∀ x ∈ p, 0 ≤ x ∧ x < 60) ∧ (∀ x ∈ l, 0 ≤ x ∧ x < 60) ∧ 1 ≤ e ∧ e ≤ 60 ∧ Q (.int (pairL r e p l)) H
theorem scPaired : FnScope ["rings", "order", "place", "label", "total", "k"] ["rings", "order", "place", "label"] (defScope sPaired) := ⟨rfl, rfl, rfl, by decide +kernel, rfl, by decide +kernel, by decide +kernel⟩
theorem ok_paired (F : FnP K "paired" sPaired f fd) (B : Bl mg) : FnOk P w K mg base CX0 1 f fd ["rings", "order", "place", "label"] (spPaired K) := by
  refine F.ok scPaired (fun vs H Q E h => ?_) (fun cdv A outer s H vs Q E hr h => ?_)
  · obtain ⟨v, u, z, r, p, l, e, rfl, _⟩ := h
    rfl
  · obtain ⟨v, u, z, r, p, l, e, rfl, ⟨a, rfl, ha⟩, ⟨b, rfl, hb⟩, ⟨c, rfl, hc⟩, h14, hp, hl, bp, bl, e1, e2, k⟩ := h
    refine ⟨_, PSs.nox (pss_cons (ps_set (i := 4) scPaired.nd rfl (Or.inl rfl) pe_int)
      (pss_cons (ps_for PassesOwn.never rfl (pi_range1 rfl (B "range" (by decide +kernel)) (pa_cons (pe_callB call_len_seq (by rfl) (B "len" (by decide +kernel)) PySem.boot_len (pa_cons (pv 0) pa_nil)) pa_nil)) (pg_name (i := 5) scPaired.nd rfl (Or.inl rfl))
        (pss_one (ps_aug (i := 4) scPaired.nd rfl (Or.inl rfl) (pe_op op_mul (pe_op op_mul (pe_ix ix_tup (pv 2) (pv 5) (fun _ _ => rfl)) (pe_ix ix_tup (pv 3) (pv 5) (fun _ _ => rfl))) (pe_op op_fdiv (pv 1) (pe_ix ix_tup (pv 0) (pv 5) (fun _ _ => rfl)))) ip_add)))
      (pss_one (ps_ret (pe_op op_mod (pv 4) (pv 1)))))), ?_⟩
    have hn := rr_len r h14
    refine ⟨_, rfl, a, _, rfl, .inr ha, _, rfl, by rw [List.length_map]; omega, by rw [List.length_map]; omega, ?_⟩
    have en : ((r.map V.int).length : Int).toNat = r.length := by rw [List.length_map]; omega
    rw [en]
    refine for_range (lo := 0) (n := r.length) (fun i σ H2 => ∃ u, σ = [some (.ref a), some (.int e), some (.ref b), some (.ref c), some (.int (pairGo r e p l i)), u] ∧ H2 = H) ⟨none, rfl, rfl⟩ ?_ ?_
    · rintro i σ H2 hi ⟨u, rfl, rfl⟩
      have g := rr_get h14 hi
      have e0 : (0 : Int) + (i : Int) = (i : Int) := Int.zero_add _
      have gp : 0 ≤ p.getD i 0 ∧ p.getD i 0 < 60 := by
        rw [List.getD_eq_getElem?_getD, List.getElem?_eq_getElem (by omega : i < p.length)]
        exact bp _ (List.getElem_mem _)
      have gl : 0 ≤ l.getD i 0 ∧ l.getD i 0 < 60 := by
        rw [List.getD_eq_getElem?_getD, List.getElem?_eq_getElem (by omega : i < l.length)]
        exact bl _ (List.getElem_mem _)
      have g1 : 0 ≤ p.getD i 0 * l.getD i 0 := Int.mul_nonneg gp.1 gl.1
      have g2 : p.getD i 0 * l.getD i 0 ≤ 60 * 60 := Int.mul_le_mul (by omega) (by omega) (by omega) (by omega)
      refine ⟨_, rfl, _, rfl, _, rfl, b, _, _, _, rfl, rfl, hb, by rw [e0]; exact atI_nat (getD_of (by omega)), _, rfl, _, rfl, c, _, _, _, rfl, rfl, hc, by rw [e0]; exact atI_nat (getD_of (by omega)), _, _, rfl, rfl, Or.inl ⟨by omega, by omega⟩, _, rfl, _, rfl, _, rfl, a, _, _, _, rfl, rfl, ha, by rw [e0]; exact atI_nat (getD_of hi), _, _, rfl, rfl, ⟨by omega, by omega⟩, _, _, rfl, rfl, Or.inl ⟨by omega, by omega⟩, ?_⟩
      exact ⟨_, _, rfl, rfl, _, rfl, rfl⟩
    · rintro σ H2 ⟨u, rfl, rfl⟩
      exact ⟨_, rfl, _, rfl, _, _, rfl, rfl, by omega, k⟩
/-! ### primes_of -/
def spPrimes : Sp := fun vs H Q _ => ∃ e : Int, vs = [.int e] ∧ 1 ≤ e ∧ e ≤ 60 ∧ ∀ p H', Same H H' → H p = none → H' p = some (.lst ((primesL e).map V.int)) → Q (.ref p) H'
theorem scPrimes : FnScope ["number", "primes", "k", "prime"] ["number"] (defScope sPrimes) := ⟨rfl, rfl, rfl, by decide +kernel, rfl, by decide +kernel, by decide +kernel⟩
theorem primesGo_pos (n : Int) : ∀ i, ∀ p ∈ primesGo n i, 2 ≤ p
  | 0, p, h => absurd h (by simp [primesGo])
  | i + 1, p, h => by
    unfold primesGo at h
    split at h
    · rcases List.mem_append.mp h with z | z
      · exact primesGo_pos n i p z
      · have e := List.mem_singleton.mp z
        omega
    · exact primesGo_pos n i p h
theorem primesGo_len (n : Int) : ∀ i, (primesGo n i).length ≤ i
  | 0 => by simp [primesGo]
  | i + 1 => by
    have h := primesGo_len n i
    unfold primesGo
    split
    · rw [List.length_append]
      simp
      omega
    · omega
theorem neII {a b : Int} : (!decide (V.int a = V.int b)) = (!decide (a = b)) := by
  congr 1
  by_cases h : a = b
  · rw [h]
    simp
  · rw [decide_eq_false h, decide_eq_false (fun z => h (V.int.inj z))]
theorem ok_primes (F : FnP K "primes_of" sPrimes f fd) (B : Bl mg) : FnOk P w K mg base CX0 1 f fd ["number"] spPrimes := by
  refine F.ok scPrimes (fun vs H Q E h => ?_) (fun cdv A outer s H vs Q E hr h => ?_)
  · obtain ⟨e, rfl, _⟩ := h
    rfl
  · obtain ⟨e, rfl, h1, h2, k⟩ := h
    refine ⟨_, PSs.nox (pss_cons (ps_set (i := 1) scPrimes.nd rfl (Or.inl rfl) (pe_lst pa_nil))
      (pss_cons (ps_for PassesOwn.never rfl (pi_range2 rfl (B "range" (by decide +kernel)) (pa_cons pe_int (pa_cons (pe_op op_add (pv 0) pe_int) pa_nil))) (pg_name (i := 2) scPrimes.nd rfl (Or.inr rfl))
        (pss_one (ps_if (PW.pt (pw_and (pt_cmpR op_eq (pe_op op_mod (pv 0) (pv 2)) pe_int (nomark _)) (pw_and1 (pt_val (pe_callB (cr_all rfl) (by rfl) (B "all" (by decide +kernel)) (by decide +kernel) (pa_cons
            (pe_lc (own := [("prime", 3)]) (g := gName 3) (tt := tYes) (te := tOp rNe (tOp rMod (tVar 2) (tVar 3)) (tC (.int 0))) rfl scPrimes.nd (pi_list (pv 1)) (blkOk_by (own := [("prime", 3)]) (N := ["number", "primes", "k", "prime"]) (sc := defScope sPrimes) (by decide +kernel)) (fun _ _ _ _ _ => pg_name (i := 3) scPrimes.nd rfl (Or.inl rfl)) (fun _ _ _ _ _ => pts_nil) (fun _ _ _ _ _ => pe_cmpR op_ne (pe_op op_mod (pv 2) (pv 3)) pe_int (nomark _))) pa_nil))))))
          (pss_one (ps_expr (pe_bm PySem.F.plainAttrs_list PySem.F.slot_list_append PySem.F.type_list_append mt_append (pv 1) (pa_cons (pv 2) pa_nil)))) pss_nil)))
      (pss_one (ps_ret (pv 1))))), ?_⟩
    refine ⟨by decide, fun L hL => ?_⟩
    refine ⟨_, rfl, _, _, rfl, rfl, 2, e + 1, rfl, ⟨by omega, by omega, by omega, by omega⟩, ?_⟩
    refine for_range (lo := 2) (n := (e + 1 - 2).toNat) (fun i σ H2 => ∃ u, σ = [some (.int e), some (.ref L), u, none] ∧ Same H H2 ∧ H2 L = some (.lst ((primesGo e i).map V.int))) ⟨none, rfl, same_upd hL, upd_same⟩ ?_ ?_
    · rintro i σ H2 hi ⟨u, rfl, s2, h2'⟩
      refine ⟨_, rfl, _, rfl, _, _, rfl, rfl, by omega, rfl, _, rfl, ?_⟩
      have pl := primesGo_len e i
      refine ite2 (fun c => ?_) (fun c => ?_)
      · have c1 := eqI c
        refine ⟨_, rfl, L, rfl, ⟨_, SqL.of h2'⟩, fun D hD => ?_⟩
        refine lc_list (K := K) (a := L) (xs := (primesGo e i).map V.int) (fun m H3 => Same H2 H3 ∧ H3 D = some (.lst ((((primesGo e i).take m).map fun p => !decide ((2 + (i : Int)) % p = 0)).map V.bl))) ⟨same_upd hD, upd_same⟩ (fun m H3 _ ⟨s3, _⟩ => SqL.of (s3 _ _ h2')) ?_ ?_
        · rintro m y H3 hm ⟨s3, h3⟩
          obtain ⟨p, rfl, hp⟩ := getI hm
          have hp2 := primesGo_pos e i p (List.mem_of_getElem? hp)
          refine ⟨rfl, _, rfl, _, rfl, _, _, rfl, rfl, by omega, rfl, ?_⟩
          refine ⟨_, h3, sl_lt (by rw [List.length_map, List.length_map]; exact Nat.le_trans (List.length_take_le' _ _) (by omega)), same_at s3 hD, ?_⟩
          rw [upd_same, takeS hp, List.map_append, List.map_append, neII]
          rfl
        · rintro H3 ⟨s3, h3⟩
          rw [List.length_map, List.take_length] at h3
          refine ⟨D, _, rfl, SqL.of h3, _, rfl, ?_⟩
          refine ite2 (fun c2 => ?_) (fun c2 => ?_)
          · refine ⟨_, rfl, Or.inl ⟨rfl, _, SqL.of (s3 _ _ h2')⟩, _, rfl, L, _, _, rfl, rfl, s3 _ _ h2', sl_lt (by rw [List.length_map]; omega), ?_⟩
            refine ⟨_, rfl, same_at (s2.trans s3) hL, ?_⟩
            rw [upd_same]
            have e1 : primesGo e (i + 1) = primesGo e i ++ [2 + (i : Int)] := by
              show (if _ then _ else _) = _
              rw [if_pos]
              rw [Bool.and_eq_true]
              exact ⟨decide_eq_true c1, c2⟩
            rw [e1, List.map_append]
            rfl
          · refine ⟨_, rfl, s2.trans s3, ?_⟩
            have e1 : primesGo e (i + 1) = primesGo e i := by
              show (if _ then _ else _) = _
              rw [if_neg]
              rw [Bool.and_eq_true]
              exact fun z => c2 z.2
            rw [e1]
            exact s3 _ _ h2'
      · have c1 := neI c
        refine iteF ?_
        refine ⟨_, rfl, s2, ?_⟩
        have e1 : primesGo e (i + 1) = primesGo e i := by
          show (if _ then _ else _) = _
          rw [if_neg]
          rw [Bool.and_eq_true]
          exact fun z => c1 (of_decide_eq_true z.1)
        rw [e1]
        exact h2'
    · rintro σ H2 ⟨u, rfl, s2, h2'⟩
      exact ⟨_, rfl, k L H2 s2 hL h2'⟩
end
end K45

namespace K45
open PySem PySem.Spec PyProof.Rows L2
/-- a walk of a list, the turn left open -/
theorem out_list {K : PySem.W.Frag} {a : Addr} {xs : List V} {H0 : Hp} {Qd : Hp → Prop} {body : (Hp → Prop) → V → Hp → Prop} (Pv : Nat → Hp → Prop) (h0 : Pv 0 H0) (hl : ∀ i H, i ≤ xs.length → Pv i H → SqL K H a xs)
    (hs : ∀ i x H, xs[i]? = some x → Pv i H → body (Pv (i + 1)) x H) (hd : ∀ H, Pv xs.length H → Qd H) :
    ∃ W : Nat → Nat → Hp → Prop, (∃ m, W 0 m H0) ∧ ∀ i m H, W i m H →
      ((Itl K a).stop i H ∧ Qd H) ∨ ((Itl K a).go i H ∧ ∃ Nx : Hp → Prop, (∀ H', Nx H' → ∃ m', m' < m ∧ W (i + 1) m' H') ∧ ∀ x H', (Itl K a).yld i H x H' → body Nx x H') := by
  refine ⟨fun i m H => m = xs.length - i ∧ i ≤ xs.length ∧ Pv i H, ⟨xs.length, by simp, Nat.zero_le _, h0⟩, ?_⟩
  rintro i m H ⟨rfl, hi, p⟩
  have q := hl i H hi p
  by_cases hlt : i < xs.length
  · refine .inr ⟨⟨xs, xs[i], q, by simp [hlt]⟩, Pv (i + 1), fun H' p' => ⟨xs.length - (i + 1), by omega, rfl, hlt, p'⟩, fun x H' y => ?_⟩
    obtain ⟨e, y⟩ := y
    subst e
    exact hs i x _ (y xs q) p
  · have e : i = xs.length := by omega
    subst e
    exact .inl ⟨⟨xs, q, Nat.le_refl _⟩, hd H p⟩
/-- a walk of a range, the turn left open -/
theorem out_range {lo : Int} {n : Nat} {H0 : Hp} {Qd : Hp → Prop} {body : (Hp → Prop) → V → Hp → Prop} (Pv : Nat → Hp → Prop) (h0 : Pv 0 H0)
    (hs : ∀ i H, i < n → Pv i H → body (Pv (i + 1)) (.int (lo + (i : Int))) H) (hd : ∀ H, Pv n H → Qd H) :
    ∃ W : Nat → Nat → Hp → Prop, (∃ m, W 0 m H0) ∧ ∀ i m H, W i m H →
      ((Itr lo n).stop i H ∧ Qd H) ∨ ((Itr lo n).go i H ∧ ∃ Nx : Hp → Prop, (∀ H', Nx H' → ∃ m', m' < m ∧ W (i + 1) m' H') ∧ ∀ x H', (Itr lo n).yld i H x H' → body Nx x H') := by
  refine ⟨fun i m H => m = n - i ∧ i ≤ n ∧ Pv i H, ⟨n, by simp, Nat.zero_le _, h0⟩, ?_⟩
  rintro i m H ⟨rfl, hi, p⟩
  by_cases hlt : i < n
  · refine .inr ⟨hlt, Pv (i + 1), fun H' p' => ⟨n - (i + 1), by omega, rfl, hlt, p'⟩, fun x H' y => ?_⟩
    obtain ⟨e, y⟩ := y
    subst e y
    exact hs i _ hlt p
  · have e : i = n := by omega
    subst e
    exact .inl ⟨Nat.le_refl _, hd H p⟩
theorem plStep_len (ps : List (List Int)) (len : Int) : (plStep ps len).length = ps.length * len.toNat := by
  unfold plStep
  induction ps with
  | nil => simp
  | cons p r ih =>
    rw [List.flatMap_cons, List.length_append, ih, List.length_map, rgL_len, List.length_cons, Nat.succ_mul, Nat.add_comm]
theorem plStep_take {ps : List (List Int)} {len : Int} {i : Nat} {p : List Int} (h : ps[i]? = some p) : plStep (ps.take (i + 1)) len = plStep (ps.take i) len ++ (rgL 0 len.toNat).map fun x => p ++ [x] := by
  rw [takeS h]
  unfold plStep
  rw [List.flatMap_append]
  simp
theorem pl_take {r : List Int} {i : Nat} {x : Int} (h : r[i]? = some x) : placesL (r.take (i + 1)) = plStep (placesL (r.take i)) x := by
  rw [takeS h]
  unfold placesL
  rw [List.foldl_append]
  rfl
theorem rr_pl : ∀ r ∈ RR, ∀ i ∈ List.range (r.length + 1), (placesL (r.take i)).length ≤ 60 := by decide +kernel
theorem rr_plen : ∀ r ∈ RR, ∀ i ∈ List.range (r.length + 1), ∀ p ∈ placesL (r.take i), p.length = i := by decide +kernel
theorem rf_snoc {ks : List (Addr × List Int)} {p : Addr} {ns : List Int} : rf (ks ++ [(p, ns)]) = rf ks ++ [V.ref p] := by simp [rf]
theorem map_get {ks : List (Addr × List Int)} {ps : List (List Int)} {i : Nat} {q : Addr × List Int} (h : ks.map (·.2) = ps) (e : ks[i]? = some q) : ps[i]? = some q.2 := by
  rw [← h, List.getElem?_map, e]
  rfl
section
variable {P : Program} {w : World} {K : PySem.W.Frag} {mg : Str → Option Value} {base : Heap} {f : Addr} {fd : FuncData}
def spPlaces (K : PySem.W.Frag) : Sp := fun vs H Q _ => ∃ (v : V) (r : List Int), vs = [v] ∧ TupI K H v r ∧ r ∈ RR ∧ ∀ p H', Same H H' → H p = none → PlL K H' p (placesL r) → Q (.ref p) H'
theorem scPlaces : FnScope ["rings", "places", "length", "place", "item"] ["rings"] (defScope sPlaces) := ⟨rfl, rfl, rfl, by decide +kernel, rfl, by decide +kernel, by decide +kernel⟩
theorem ok_places (F : FnP K "list_places" sPlaces f fd) (B : Bl mg) : FnOk P w K mg base CX0 1 f fd ["rings"] (spPlaces K) := by
  refine F.ok scPlaces (fun vs H Q E h => ?_) (fun cdv A outer s H vs Q E hr h => ?_)
  · obtain ⟨v, r, rfl, _⟩ := h
    rfl
  · obtain ⟨v, r, rfl, ⟨a, rfl, ha⟩, h14, k⟩ := h
    refine ⟨_, PSs.nox (pss_cons (ps_set (i := 1) scPlaces.nd rfl (Or.inl rfl) (pe_lst (pa_cons (pe_tup pa_nil) pa_nil)))
      (pss_cons (ps_for PassesOwn.never rfl (pi_tup (pv 0)) (pg_name (i := 2) scPlaces.nd rfl (Or.inr rfl))
        (pss_one (ps_setLc2 (i := 1) (own := [("place", 3), ("item", 4)]) (vs1 := [4]) (g := gName 3) (tt := tYes) (wi1 := iRng1 (tCons (tVar 2) tNil)) (g1 := gName 4) (tt1 := tYes) (te := tTup (StX.tStar K (tVar 3) (tCons (tVar 4) tNil))) rfl scPlaces.nd rfl rfl (sw_true rfl rfl rfl (by decide +kernel)) (pi_list (pv 1))
          (blkOk_by (own := [("place", 3), ("item", 4)]) (N := ["rings", "places", "length", "place", "item"]) (sc := defScope sPlaces) (by decide +kernel)) (by decide)
          (fun _ _ _ _ _ => pg_name (i := 3) scPlaces.nd rfl (Or.inl rfl)) (fun _ _ _ _ _ => pts_nil)
          (fun _ _ _ _ _ => pi_range1 rfl (B "range" (by decide +kernel)) (pa_cons (pv 2) pa_nil)) (fun _ _ _ _ _ => pg_name (i := 4) scPlaces.nd rfl (Or.inl rfl)) (fun _ _ _ _ _ => pts_nil)
          (fun _ _ _ _ _ => pe_tup (StX.pa_star (pv 3) (pa_cons (pv 4) pa_nil))))))
      (pss_one (ps_ret (pv 1))))), ?_⟩
    refine ⟨by decide, fun t ht => ⟨by show 1 ≤ sizeLine; decide, fun L hL => ?_⟩⟩
    have s0 : Same H (upd (upd H t (.tup [])) L (.lst [.ref t])) := same_new (same_upd ht) hL
    have nL : H L = none := (same_upd (o := HO.tup []) ht).free hL
    refine ⟨_, rfl, a, rfl, ⟨_, s0.tup ha⟩, for_tup (K := K) (a := a) (xs := r.map V.int) (fun i σ H2 => ∃ (l : Addr) (u : Option V), σ = [some (.ref a), some (.ref l), u, none, none] ∧ H l = none ∧ Same H H2 ∧ PlL K H2 l (placesL (r.take i)))
      ⟨L, none, rfl, nL, s0, [(t, [])], upd_same, rfl, ⟨fun p hp => by rw [List.mem_singleton.mp hp]; exact same_upd hL _ _ upd_same⟩⟩ (fun i σ H2 _ ⟨_, _, _, _, s2, _⟩ => s2.tup ha) ?_ ?_⟩
    · rintro i y σ H2 hi ⟨l, u, rfl, nl, s2, ks, hk, em, tk⟩
      obtain ⟨c, rfl, hc⟩ := getI hi
      have hb := rr_pos r h14 c (List.mem_of_getElem? hc)
      have hlt := ltL hc
      have l1 := rr_pl r h14 i (List.mem_range.mpr (by omega))
      have l2 := rr_pl r h14 (i + 1) (List.mem_range.mpr (by omega))
      rw [pl_take hc] at l2
      refine ⟨_, rfl, l, rfl, ⟨_, SqL.of hk⟩, fun D hD => ?_⟩
      have nD : H D = none := s2.free hD
      refine out_list (K := K) (a := l) (xs := rf ks) (fun m H3 => Same H2 H3 ∧ PlL K H3 D (plStep ((placesL (r.take i)).take m) c)) ⟨same_upd hD, [], upd_same, rfl, tp_nil⟩ (fun m H3 _ ⟨s3, _⟩ => SqL.of (s3 _ _ hk)) ?_ ?_
      · rintro m y H3 hm ⟨s3, P3⟩
        obtain ⟨q, rfl, hq⟩ := getR hm
        have hq2 := map_get em hq
        have hq2' : ((placesL (r.take i))[m]? = some q.2) := hq2
        refine ⟨rfl, _, rfl, c, rfl, by omega, by omega, ?_⟩
        refine out_range (lo := 0) (n := c.toNat) (fun j H4 => Same H2 H4 ∧ PlL K H4 D (plStep ((placesL (r.take i)).take m) c ++ (rgL 0 j).map fun x => q.2 ++ [x])) ⟨s3, by simpa [rgL] using P3⟩ ?_ ?_
        · rintro j H4 hj ⟨s4, ks4, h4, e4, t4⟩
          refine ⟨rfl, _, rfl, q.1, _, rfl, .inl (s4.tup (tk q (List.mem_of_getElem? hq))), _, rfl, ?_, fun p hp => ?_⟩
          · have z := rr_len r h14
            have z1 : q.2.length = i := rr_plen r h14 i (List.mem_range.mpr (by omega)) _ (List.mem_of_getElem? hq2)
            rw [List.length_append, List.length_map]
            exact sl_1000 (by simp; omega)
          · have e5 : ks4.length ≤ 3700 := by
              have z := congrArg List.length e4
              rw [List.length_map, List.length_append, plStep_len, List.length_map, rgL_len] at z
              have z2 : ((placesL (r.take i)).take m).length ≤ 60 := Nat.le_trans (List.length_take_le' _ _) l1
              have z3 : ((placesL (r.take i)).take m).length * c.toNat ≤ 60 * 60 := Nat.mul_le_mul z2 (by omega)
              omega
            have h4p : upd H4 p (.tup (q.2.map V.int ++ [.int (0 + (j : Int))])) D = some (.lst (rf ks4)) := by rw [upd_ne (ne_of_none h4 hp)]; exact h4
            refine ⟨_, h4p, sl_lt (by rw [List.length_map]; omega), same_at (same_new s4 hp) hD, ks4 ++ [(p, q.2 ++ [0 + (j : Int)])], ?_, ?_, ?_⟩
            · rw [upd_same, rf_snoc]
            · rw [List.map_append, e4, rgL_succ, List.map_append, List.append_assoc]
              rfl
            · have sp : Same H4 (upd H4 p (.tup (q.2.map V.int ++ [.int (0 + (j : Int))]))) := same_upd hp
              have tl1 : TP K (upd H4 p (.tup (q.2.map V.int ++ [.int (0 + (j : Int))]))) (ks4 ++ [(p, q.2 ++ [0 + (j : Int)])]) := tp_snoc (tp_same sp t4) (by rw [upd_same, List.map_append]; rfl)
              exact tp_at tl1 h4p
        · rintro H4 ⟨s4, P4⟩
          refine ⟨s4, ?_⟩
          rw [plStep_take hq2]
          exact P4
      · rintro H3 ⟨s3, P3⟩
        refine ⟨D, _, rfl, nD, s2.trans s3, ?_⟩
        have e6 : (rf ks).length = (placesL (r.take i)).length := by rw [← em, List.length_map, List.length_map]
        rw [e6, List.take_length] at P3
        rw [pl_take hc]
        exact P3
    · rintro σ H2 ⟨l, u, rfl, nl, s2, P2⟩
      rw [List.length_map, List.take_length] at P2
      exact ⟨_, rfl, k l H2 s2 nl P2⟩
end
end K45

namespace K45
open PySem PySem.Spec PyProof.Rows L2
section
variable {P : Program} {w : World} {K : PySem.W.Frag} {mg : Str → Option Value} {base : Heap} {f : Addr} {fd : FuncData}
/-! ### _stretched -/
def spStr (K : PySem.W.Frag) : Sp := fun vs H Q _ => ∃ (a : Addr) (xs : List Int) (b : Nat), vs = [.ref a, .int (b : Int)] ∧ SqL K H a (xs.map V.int) ∧ 1 ≤ xs.length ∧ xs.length ≤ 100 ∧ 1 ≤ b ∧ b ≤ 100 ∧ ∀ p H', Same H H' → H p = none → H' p = some (.lst ((strL xs b).map V.int)) → Q (.ref p) H'
theorem scStr : FnScope ["items", "by", "stretched", "k", "item"] ["items", "by"] (defScope sStr) := ⟨rfl, rfl, rfl, by decide +kernel, rfl, by decide +kernel, by decide +kernel⟩
theorem strN_len (xs : List Int) (b : Nat) : ∀ i, (strN xs b i).length = (xs.length - 1) * b + 1
  | 0 => by simp [strN]
  | i + 1 => by
    unfold strN
    rw [List.length_set]
    exact strN_len xs b i
theorem ixN_nat {n j : Nat} (h : j < n) : ixN n (j : Int) = some j := by
  unfold ixN
  rw [if_pos (by omega), if_pos (by omega)]
  simp
theorem rep_flat (n : Nat) (x : V) : (List.replicate n [x]).flatten = List.replicate n x := by
  induction n with
  | zero => rfl
  | succ n ih => rw [List.replicate_succ, List.flatten_cons, ih, List.replicate_succ]; rfl
theorem ok_str (F : FnP K "_stretched" sStr f fd) (B : Bl mg) : FnOk P w K mg base CX0 1 f fd ["items", "by"] (spStr K) := by
  refine F.ok scStr (fun vs H Q E h => ?_) (fun cdv A outer s H vs Q E hr h => ?_)
  · obtain ⟨a, xs, b, rfl, _⟩ := h
    rfl
  · obtain ⟨a, xs, b, rfl, hS, l1, l2, b1, b2, k⟩ := h
    refine ⟨_, PSs.nox (pss_cons (ps_set (i := 2) scStr.nd rfl (Or.inl rfl) (pe_op op_rep (pe_lst (pa_cons pe_int pa_nil)) (pe_op op_add (pe_op op_mul (pe_op op_sub (pe_callB call_len_seq (by rfl) (B "len" (by decide +kernel)) PySem.boot_len (pa_cons (pv 0) pa_nil)) pe_int) (pv 1)) pe_int)))
      (pss_cons (ps_for PassesOwn.never rfl (pi_enum (by rfl) (B "enumerate" (by decide +kernel)) (pa_cons (pv 0) pa_nil)) (pg_tup rfl (pgs_cons (pg_name (i := 3) scStr.nd rfl (Or.inl rfl)) (pgs_cons (pg_name (i := 4) scStr.nd rfl (Or.inl rfl)) pgs_nil)))
        (pss_one (ps_asg (pv 4) (pg_sub (pv 2) (pe_op op_mul (pv 3) (pv 1)) set_list))))
      (pss_one (ps_ret (pv 2))))), ?_⟩
    refine ⟨by show 1 ≤ sizeLine; decide, fun z hz => ?_⟩
    have sz : Same H (upd H z (.lst [.int 0])) := same_upd hz
    have em : ((((xs.map V.int).length : Int) - 1) * (b : Int) + 1) = (((xs.length - 1) * b + 1 : Nat) : Int) := by
      rw [List.length_map]
      have e1 : ((xs.length : Int) - 1) = ((xs.length - 1 : Nat) : Int) := by omega
      rw [e1]
      push_cast
      rfl
    have hb : (xs.length - 1) * b ≤ 99 * 100 := Nat.mul_le_mul (by omega) b2
    refine ⟨_, rfl, a, _, rfl, .inl (sz.seq hS), _, _, rfl, rfl, _, rfl, _, _, rfl, rfl, Or.inl ⟨by rw [List.length_map]; omega, by rw [List.length_map]; omega⟩, _, _, rfl, rfl, z, _, _, rfl, rfl, upd_same, ?_⟩
    rw [em]
    refine ⟨by omega, by omega, ?_, fun D hD => ?_⟩
    · rw [Int.toNat_natCast]
      exact sl_1000 (by simp; omega)
    rw [Int.toNat_natCast, rep_flat]
    have nD : H D = none := sz.free hD
    have s1 : Same H (upd (upd H z (.lst [.int 0])) D (.lst (List.replicate ((xs.length - 1) * b + 1) (V.int 0)))) := same_new sz hD
    refine ⟨_, rfl, a, xs.map V.int, rfl, s1.seq hS, ?_⟩
    refine for_it (walk_enum (K := K) (a := a) (xs := xs.map V.int)) (fun i σ H2 => ∃ u v, σ = [some (.ref a), some (.int (b : Int)), some (.ref D), u, v] ∧ Same H H2 ∧ H2 D = some (.lst ((strN xs b i).map V.int))) ⟨none, none, rfl, s1, ?_⟩ (fun i σ H2 _ ⟨_, _, _, s2, _⟩ => s2.seq hS) ?_ ?_
    · rw [upd_same]
      simp [strN]
    · rintro i x σ H2 H3 hi ⟨u, v, rfl, s2, h2⟩ ⟨T, c, y, rfl, hT, rfl, ec, ey⟩
      obtain ⟨x, rfl, hx⟩ := getI ey
      obtain rfl := Option.some.inj ec
      rw [List.length_map] at hi
      have h3 : upd H2 T (.tup [.int (i : Int), .int x]) D = some (.lst ((strN xs b i).map V.int)) := by rw [upd_ne (ne_of_none h2 hT)]; exact h2
      have s3 : Same H (upd H2 T (.tup [.int (i : Int), .int x])) := same_new s2 hT
      refine ⟨T, _, rfl, SqT.of upd_same, rfl, _, _, rfl, _, _, rfl, rfl, ?_⟩
      have hib : i * b ≤ (xs.length - 1) * b := Nat.mul_le_mul (by omega) (Nat.le_refl _)
      have ee : (i : Int) * (b : Int) = ((i * b : Nat) : Int) := by push_cast; rfl
      refine ⟨_, rfl, _, rfl, _, rfl, _, rfl, _, _, rfl, rfl, Or.inl ⟨by omega, by omega⟩, D, _, _, i * b, rfl, rfl, h3, ?_, _, _, rfl, same_at s3 nD, ?_⟩
      · rw [ee, List.length_map, strN_len]
        exact ixN_nat (by omega)
      · rw [upd_same]
        have e4 : strN xs b (i + 1) = (strN xs b i).set (i * b) (xs.getD i 0) := rfl
        have e5 : xs.getD i 0 = x := by rw [List.getD_eq_getElem?_getD, hx]; rfl
        rw [e4, e5, List.map_set]
    · rintro σ H2 ⟨u, v, rfl, s2, h2⟩
      rw [List.length_map] at h2
      exact ⟨_, rfl, k D H2 s2 nD h2⟩
end
end K45

namespace K45
open PySem PySem.Spec PyProof.Rows L2
section
variable {X : Cx}
def rGetN (K : PySem.W.Frag) : V → V → Hp → VK → Prop := fun x y H Q => ∃ (p : Addr) (xs : List V) (j : Nat) (v : V), x = .ref p ∧ y = .int (j : Int) ∧ SqL K H p xs ∧ xs[j]? = some v ∧ Q v H
theorem get_list : PGet X (rGetN X.K) := by
  intro pins s σ H o i ov iv Q I r1 r2 h
  obtain ⟨p, xs, j, v, rfl, rfl, hq, he, q⟩ := h
  cases r1
  obtain ⟨t, rfl⟩ := r2
  obtain ⟨its, r, pl, hz⟩ := I.list hq
  obtain ⟨w, ew, rw'⟩ := r.get he
  have hj := ltL he
  have hn := line63
  exact wpAny_getItem_list pl.isList (by omega) (by omega) (by rw [Int.toNat_natCast]; simpa using ew) ⟨v, H, I, rw', q⟩
end
theorem subN_len (h : Int) (dv : List Int) (a : Nat) (r : List Int) : ∀ k, (subN h dv a r k).length = r.length
  | 0 => rfl
  | k + 1 => by
    unfold subN
    rw [List.length_set]
    exact subN_len h dv a r k
section
variable {P : Program} {w : World} {K : PySem.W.Frag} {mg : Str → Option Value} {base : Heap} {f : Addr} {fd : FuncData}
/-- a list or a tuple of ints -/
def SqI (K : PySem.W.Frag) (H : Hp) (a : Addr) (ns : List Int) : Prop := SqL K H a (ns.map V.int) ∨ SqT K H a (ns.map V.int)
theorem _root_.L2.Same.sqi {K : PySem.W.Frag} {H H' : Hp} {a : Addr} {ns : List Int} (e : Same H H') (h : SqI K H a ns) : SqI K H' a ns := h.imp (fun z => e.seq z) (fun z => e.tup z)
def spDiv (K : PySem.W.Frag) : Sp := fun vs H Q _ => ∃ (a b : Addr) (xs dv : List Int), vs = [.ref a, .ref b] ∧ SqI K H a xs ∧ SqI K H b dv ∧ 1 ≤ dv.length ∧ dv.length ≤ 1000 ∧ xs.length ≤ 10000 ∧ (∀ d ∈ dv, -1000 ≤ d ∧ d ≤ 1000) ∧
  ∀ t q r H', Same H H' → H t = none → H q = none → H r = none → H' t = some (.tup [.ref q, .ref r]) → H' q = some (.lst ((divL xs dv).1.map V.int)) → H' r = some (.lst ((divL xs dv).2.map V.int)) → Q (.ref t) H'
theorem scDiv : FnScope ["items", "divisor", "degree", "rest", "quotient", "highest", "at", "k"] ["items", "divisor"] (defScope sDiv) := ⟨rfl, rfl, rfl, by decide +kernel, rfl, by decide +kernel, by decide +kernel⟩
theorem lastD {l : List Int} (h : 0 < l.length) : (l.map V.int)[(l.map V.int).length - 1]? = some (V.int (l.getLastD 0)) := by
  refine ofI ?_
  rw [List.length_map, List.getElem?_eq_getElem (by omega)]
  congr 1
  cases l with
  | nil => simp at h
  | cons x r => simp [List.getLastD, List.getLast_eq_getElem]
theorem ok_div (F : FnP K "_divided" sDiv f fd) (B : Bl mg) : FnOk P w K mg base CX0 1 f fd ["items", "divisor"] (spDiv K) := by
  refine F.ok scDiv (fun vs H Q E h => ?_) (fun cdv A outer s H vs Q E hr h => ?_)
  · obtain ⟨a, b, xs, dv, rfl, _⟩ := h
    rfl
  · obtain ⟨a, b, xs, dv, rfl, hS, hD, d1, d2, x1, db, k⟩ := h
    refine ⟨_, PSs.nox (pss_cons (ps_set (i := 2) scDiv.nd rfl (Or.inl rfl) (pe_op op_sub (pe_callB call_len_seq (by rfl) (B "len" (by decide +kernel)) PySem.boot_len (pa_cons (pv 1) pa_nil)) pe_int))
      (pss_cons (ps_set (i := 3) scDiv.nd rfl (Or.inl rfl) (pe_callTy call_list_of (by rfl) (B "list" (by decide +kernel)) (by decide +kernel) (pa_cons (pv 0) pa_nil)))
      (pss_cons (ps_set (i := 4) scDiv.nd rfl (Or.inl rfl) (pe_lst pa_nil))
      (pss_cons (ps_while PassesOwn.never (pt_cmpR op_gt (pe_callB call_len_seq (by rfl) (B "len" (by decide +kernel)) PySem.boot_len (pa_cons (pv 3) pa_nil)) (pv 2) (nomark _))
        (pss_cons (ps_set (i := 5) scDiv.nd rfl (Or.inl rfl) (pe_bm0 PySem.F.plainAttrs_list PySem.F.slot_list_pop PySem.F.type_list_pop mt_pop (pv 3)))
        (pss_cons (ps_expr (pe_bm PySem.F.plainAttrs_list PySem.F.slot_list_append PySem.F.type_list_append mt_append (pv 4) (pa_cons (pv 5) pa_nil)))
        (pss_cons (ps_set (i := 6) scDiv.nd rfl (Or.inl rfl) (pe_op op_sub (pe_callB call_len_seq (by rfl) (B "len" (by decide +kernel)) PySem.boot_len (pa_cons (pv 3) pa_nil)) (pv 2)))
        (pss_one (ps_for PassesOwn.never rfl (pi_range1 rfl (B "range" (by decide +kernel)) (pa_cons (pv 2) pa_nil)) (pg_name (i := 7) scDiv.nd rfl (Or.inl rfl))
          (pss_one (ps_augS (pv 3) (pe_op op_add (pv 6) (pv 7)) get_list (pe_op op_mul (pv 5) (pe_ix (IxR.or ix_list ix_tup) (pv 1) (pv 7) (fun _ _ => rfl))) ip_sub set_list))))))))
      (pss_one (ps_ret (pe_tup (pa_cons (pe_revL (pv 4)) (pa_cons (pv 3) pa_nil))))))))), ?_⟩
    have hbL : ∀ H2 : Hp, Same H H2 → SqL K H2 b (dv.map V.int) ∨ SqT K H2 b (dv.map V.int) := fun H2 e => e.sqi hD
    refine ⟨_, rfl, b, _, rfl, hbL H (Same.refl _), _, _, rfl, rfl, _, rfl, a, _, rfl, hS, fun R hR => ⟨by decide, fun L hL => ?_⟩⟩
    have eg : ((dv.map V.int).length : Int) - 1 = ((dv.length - 1 : Nat) : Int) := by rw [List.length_map]; omega
    have sR : Same H (upd H R (.lst (xs.map V.int))) := same_upd hR
    have nL : H L = none := sR.free hL
    have hRL : R ≠ L := ne_of_none upd_same hL
    refine while_by (fun σ H2 => ∃ (r q : List Int) (u5 u6 u7 : Option V), σ = [some (.ref a), some (.ref b), some (.int (((dv.map V.int).length : Int) - 1)), some (.ref R), some (.ref L), u5, u6, u7] ∧ Same H H2 ∧ H2 R = some (.lst (r.map V.int)) ∧ H2 L = some (.lst (q.map V.int)) ∧ r.length + q.length = xs.length ∧
      divGo (dv.length - 1) dv (r.length - (dv.length - 1)) r q = divGo (dv.length - 1) dv (xs.length - (dv.length - 1)) xs []) (fun σ H2 => match H2 R with | some (.lst l) => l.length | _ => 0)
      ⟨xs, [], none, none, none, rfl, same_new sR hL, by rw [upd_ne hRL]; exact upd_same, upd_same, by simp, rfl⟩ ?_ ?_
    · rintro σ H2 ⟨r, q, u5, u6, u7, rfl, s2, h1, h2, hl, hg⟩
      refine ⟨_, rfl, R, _, rfl, .inl (SqL.of h1), _, rfl, _, _, rfl, rfl, _, rfl, ?_⟩
      refine ite2 (fun c => ?_) (fun c => ?_)
      · have c1 : ((dv.map V.int).length : Int) - 1 < ((r.map V.int).length : Int) := of_decide_eq_true c
        rw [eg, List.length_map] at c1
        have c2 : dv.length - 1 < r.length := by omega
        -- highest = rest.pop()
        refine ⟨_, rfl, Or.inl ⟨rfl, _, SqL.of h1⟩, R, _, _, rfl, rfl, h1, lastD (by omega), ?_⟩
        rw [← List.map_dropLast]
        generalize hH3 : upd H2 R (.lst (r.dropLast.map V.int)) = H3
        have p1 : H3 R = some (.lst (r.dropLast.map V.int)) := by rw [← hH3, upd_same]
        have p2 : H3 L = some (.lst (q.map V.int)) := by rw [← hH3, upd_ne hRL.symm]; exact h2
        have s3 : Same H H3 := by rw [← hH3]; exact same_at s2 hR
        -- quotient.append(highest)
        refine ⟨_, rfl, Or.inl ⟨rfl, _, SqL.of p2⟩, _, rfl, L, _, _, rfl, rfl, p2, sl_lt (by rw [List.length_map]; omega), ?_⟩
        generalize hH4 : upd H3 L (.lst (q.map V.int ++ [.int (r.getLastD 0)])) = H4
        have p3 : H4 R = some (.lst (r.dropLast.map V.int)) := by rw [← hH4, upd_ne hRL]; exact p1
        have p4 : H4 L = some (.lst ((q ++ [r.getLastD 0]).map V.int)) := by rw [← hH4, upd_same, List.map_append]; rfl
        have s4 : Same H H4 := by rw [← hH4]; exact same_at s3 nL
        have el : r.dropLast.length = r.length - 1 := List.length_dropLast
        refine ⟨_, rfl, R, _, rfl, .inl (SqL.of p3), _, rfl, _, _, rfl, rfl, ?_⟩
        have ea : ((r.dropLast.map V.int).length : Int) - (((dv.map V.int).length : Int) - 1) = ((r.length - 1 - (dv.length - 1) : Nat) : Int) := by
          rw [eg, List.length_map, el]
          omega
        refine ⟨_, rfl, _, rfl, by omega, by omega, ?_⟩
        rw [show (((dv.map V.int).length : Int) - 1).toNat = dv.length - 1 by rw [eg, Int.toNat_natCast]]
        refine for_range (lo := 0) (n := dv.length - 1) (fun i σ H5 => ∃ u, σ = [some (.ref a), some (.ref b), some (.int (((dv.map V.int).length : Int) - 1)), some (.ref R), some (.ref L), some (.int (r.getLastD 0)), some (.int (((r.dropLast.map V.int).length : Int) - (((dv.map V.int).length : Int) - 1))), u] ∧ Same H H5 ∧ H5 R = some (.lst ((subN (r.getLastD 0) dv (r.length - 1 - (dv.length - 1)) r.dropLast i).map V.int)) ∧ H5 L = some (.lst ((q ++ [r.getLastD 0]).map V.int)))
          ⟨u7, rfl, s4, p3, p4⟩ ?_ ?_
        · rintro i σ H5 hi ⟨u, rfl, s5, p5, p6⟩
          have e0 : (0 : Int) + (i : Int) = (i : Int) := Int.zero_add _
          have e1 : ((r.dropLast.map V.int).length : Int) - (((dv.map V.int).length : Int) - 1) + ((0 : Int) + (i : Int)) = ((r.length - 1 - (dv.length - 1) + i : Nat) : Int) := by
            rw [ea]
            omega
          have sl := subN_len (r.getLastD 0) dv (r.length - 1 - (dv.length - 1)) r.dropLast i
          have gd : -1000 ≤ dv.getD i 0 ∧ dv.getD i 0 ≤ 1000 := by
            rw [List.getD_eq_getElem?_getD, List.getElem?_eq_getElem (by omega : i < dv.length)]
            exact db _ (List.getElem_mem _)
          have gx : atI (dv.map V.int) ((0 : Int) + (i : Int)) = some (V.int (dv.getD i 0)) := by rw [e0]; exact atI_nat (getD_of (by omega))
          refine ⟨_, rfl, _, rfl, _, rfl, _, _, rfl, rfl, R, _, r.length - 1 - (dv.length - 1) + i, _, rfl, congrArg V.int e1, SqL.of p5, getD_of (by omega), _, rfl, _, rfl, _, rfl, ?_⟩
          have fin : rI CMul (fun i j => .int (i * j)) (.int (r.getLastD 0)) (.int (dv.getD i 0)) H5 (fun y H4 => ipI (fun i j => i - j) (.int ((subN (r.getLastD 0) dv (r.length - 1 - (dv.length - 1)) r.dropLast i).getD (r.length - 1 - (dv.length - 1) + i) 0)) y H4 (fun z H5 => rSetL (.ref R) (.int (((r.dropLast.map V.int).length : Int) - (((dv.map V.int).length : Int) - 1) + ((0 : Int) + (i : Int)))) z H5 fun H6 => ∃ u, [some (V.ref a), some (.ref b), some (.int (((dv.map V.int).length : Int) - 1)), some (.ref R), some (.ref L), some (.int (r.getLastD 0)), some (.int (((r.dropLast.map V.int).length : Int) - (((dv.map V.int).length : Int) - 1))), some (.int (0 + (i : Int)))] = [some (.ref a), some (.ref b), some (.int (((dv.map V.int).length : Int) - 1)), some (.ref R), some (.ref L), some (.int (r.getLastD 0)), some (.int (((r.dropLast.map V.int).length : Int) - (((dv.map V.int).length : Int) - 1))), u] ∧ Same H H6 ∧ H6 R = some (.lst ((subN (r.getLastD 0) dv (r.length - 1 - (dv.length - 1)) r.dropLast (i + 1)).map V.int)) ∧ H6 L = some (.lst ((q ++ [r.getLastD 0]).map V.int)))) := by
            refine ⟨_, _, rfl, rfl, Or.inr ⟨by omega, by omega⟩, _, _, rfl, rfl, R, _, _, r.length - 1 - (dv.length - 1) + i, rfl, rfl, p5, ?_, _, rfl, same_at s5 hR, ?_, ?_⟩
            · rw [e1, List.length_map]
              exact ixN_nat (by omega)
            · rw [upd_same, ← List.map_set]
              rfl
            · rw [upd_ne hRL.symm]
              exact p6
          rcases hbL H5 s5 with z | z
          · exact .inl ⟨b, _, _, _, rfl, rfl, z, gx, fin⟩
          · exact .inr ⟨b, _, _, _, rfl, rfl, z, gx, fin⟩
        · rintro σ H5 ⟨u, rfl, s5, p5, p6⟩
          have dl : (divStep (dv.length - 1) dv r).length = r.length - 1 := by
            show (subN _ _ _ _ _).length = _
            rw [subN_len, el]
          refine ⟨⟨divStep (dv.length - 1) dv r, q ++ [r.getLastD 0], _, _, _, rfl, s5, p5, p6, ?_, ?_⟩, ?_⟩
          · rw [dl, List.length_append]
            simp
            omega
          · rw [dl, ← hg]
            have e7 : r.length - (dv.length - 1) = (r.length - 1 - (dv.length - 1)) + 1 := by omega
            rw [e7]
            rfl
          · rw [p5, h1]
            show ((subN _ _ _ _ _).map V.int).length < (r.map V.int).length
            rw [List.length_map, List.length_map, subN_len, el]
            omega
      · have c1 : ¬ ((dv.map V.int).length : Int) - 1 < ((r.map V.int).length : Int) := fun z => c (decide_eq_true z)
        rw [eg, List.length_map] at c1
        have e8 : r.length - (dv.length - 1) = 0 := by omega
        rw [e8] at hg
        have g1 : divL xs dv = (q.reverse, r) := by
          show ((divGo _ _ _ _ _).1.reverse, (divGo _ _ _ _ _).2) = _
          rw [← hg]
          rfl
        refine ⟨_, rfl, L, _, rfl, SqL.of h2, fun p hp => ⟨_, rfl, by show 2 ≤ sizeLine; decide, fun t ht => ?_⟩⟩
        have s9 : Same H2 (upd H2 p (.lst (q.map V.int).reverse)) := same_upd hp
        have n1 : H p = none := s2.free hp
        have n2 : H t = none := (s2.trans s9).free ht
        refine k t p R _ ((s2.trans s9).trans (same_upd ht)) n2 n1 hR upd_same ?_ ?_
        · rw [upd_ne (ne_of_none (upd_same (H := H2)) ht), upd_same, g1, List.map_reverse]
        · rw [upd_ne (ne_of_none (s9 _ _ h1) ht), upd_ne (ne_of_none h1 hp), g1]
          exact h1
    · intro σ H2 Q1 Q2 hq hc
      obtain ⟨v, e1, p, ys, e2, e3, v2, e4, i, j, e5, e6, kk, e7, e8⟩ := hc
      exact ⟨v, e1, p, ys, e2, e3, v2, e4, i, j, e5, e6, kk, e7, hq _ _ e8⟩
end
end K45

namespace K45
open PySem PySem.Spec PyProof.Rows L2
def okS (s : List Int × Int) : Bool := decide (2 ≤ s.1.length) && (decide (s.1.length ≤ 61) && (s.1.all (fun d => decide (-1000 ≤ d) && decide (d ≤ 1000)) && (decide (1 ≤ s.2) && decide (s.2 ≤ 60))))
def polyS (e : Int) (i : Nat) : List Int × Int := ((primesL e).take i).foldl polyStep ([-1, 1], e)
theorem er_in : ∀ r ∈ RR, ordL r ∈ ER := by decide +kernel
theorem er_bd : ∀ e ∈ ER, 2 ≤ e ∧ e ≤ 60 := by decide +kernel
theorem er_primes : ∀ e ∈ ER, ∀ p ∈ primesL e, 2 ≤ p ∧ p ≤ 60 := by decide +kernel
theorem er_ok : ∀ e ∈ ER, ∀ i ∈ List.range ((primesL e).length + 1), okS (polyS e i) = true := by decide +kernel
theorem polyS_succ {e : Int} {i : Nat} {p : Int} (h : (primesL e)[i]? = some p) : polyS e (i + 1) = polyStep (polyS e i) p := by
  unfold polyS
  rw [takeS h, List.foldl_append]
  rfl
theorem okS_of {s : List Int × Int} (h : okS s = true) : 2 ≤ s.1.length ∧ s.1.length ≤ 61 ∧ (∀ d ∈ s.1, -1000 ≤ d ∧ d ≤ 1000) ∧ 1 ≤ s.2 ∧ s.2 ≤ 60 := by
  unfold okS at h
  simp only [Bool.and_eq_true, decide_eq_true_eq, List.all_eq_true] at h
  exact ⟨h.1, h.2.1, h.2.2.1, h.2.2.2.1, h.2.2.2.2⟩
section
variable {P : Program} {w : World} {K : PySem.W.Frag} {mg : Str → Option Value} {base : Heap} {f fP fD fS : Addr} {fd fdP fdD fdS : FuncData}
def spPoly (K : PySem.W.Frag) : Sp := fun vs H Q _ => ∃ e : Int, vs = [.int e] ∧ e ∈ ER ∧ ∀ t H', Same H H' → H t = none → H' t = some (.tup ((polyL e).map V.int)) → Q (.ref t) H'
theorem scPoly : FnScope ["order", "polynomial", "left", "prime", "_"] ["order"] (defScope sPoly) := ⟨rfl, rfl, rfl, by decide +kernel, rfl, by decide +kernel, by decide +kernel⟩
theorem ok_poly (F : FnP K "polynomial_of" sPoly f fd) (B : Bl mg) (FP : FnP K "primes_of" sPrimes fP fdP) (gP : mg "primes_of" = some (.ref fP)) (FD : FnP K "_divided" sDiv fD fdD) (gD : mg "_divided" = some (.ref fD)) (FS : FnP K "_stretched" sStr fS fdS) (gS : mg "_stretched" = some (.ref fS)) :
    FnOk P w K mg base CX0 2 f fd ["order"] (spPoly K) := by
  have GP : FnOk P w K mg base CX0 1 fP fdP ["number"] spPrimes := ok_primes FP B
  have GD : FnOk P w K mg base CX0 1 fD fdD ["items", "divisor"] (spDiv K) := ok_div FD B
  have GS : FnOk P w K mg base CX0 1 fS fdS ["items", "by"] (spStr K) := ok_str FS B
  have bP : Binds K fdP ["number"] [] := FP.bindsN fun _ _ _ _ _ _ us hl => match us, hl with | [_], _ => rfl
  have bD : Binds K fdD ["items", "divisor"] [] := FD.bindsN fun _ _ _ _ _ _ us hl => match us, hl with | [_, _], _ => rfl
  have bS : Binds K fdS ["items", "by"] [] := FS.bindsN fun _ _ _ _ _ _ us hl => match us, hl with | [_, _], _ => rfl
  refine F.ok scPoly (fun vs H Q E h => ?_) (fun cdv A outer s H vs Q E hr h => ?_)
  · obtain ⟨e, rfl, _⟩ := h
    rfl
  · obtain ⟨e, rfl, he, k⟩ := h
    have eb := er_bd e he
    refine ⟨_, PSs.nox (pss_cons (ps_set (i := 1) scPoly.nd rfl (Or.inl rfl) (pe_lst (pa_cons (pe_un un_neg pe_int) (pa_cons pe_int pa_nil))))
      (pss_cons (ps_set (i := 2) scPoly.nd rfl (Or.inl rfl) (pv 0))
      (pss_cons (ps_for PassesOwn.never rfl (pi_list (pe_call GP hr rfl gP FP.kp bP .nil pass0 (pa_cons (pv 0) pa_nil))) (pg_name (i := 3) scPoly.nd rfl (Or.inl rfl))
        (pss_cons (ps_asg (pe_call GD hr rfl gD FD.kp bD .nil pass0 (pa_cons (pe_call GS hr rfl gS FS.kp bS .nil pass0 (pa_cons (pv 1) (pa_cons (pv 3) pa_nil))) (pa_cons (pv 1) pa_nil))) (pg_tup rfl (pgs_cons (pg_name (i := 1) scPoly.nd rfl (Or.inl rfl)) (pgs_cons (pg_name (i := 4) scPoly.nd rfl (Or.inl rfl)) pgs_nil))))
        (pss_one (ps_set (i := 2) scPoly.nd rfl (Or.inl rfl) (pe_op op_fdiv (pv 2) (pv 3))))))
      (pss_one (ps_ret (pe_callTy call_tuple_of (by rfl) (B "tuple" (by decide +kernel)) (by decide +kernel) (pa_cons (pe_call GS hr rfl gS FS.kp bS .nil pass0 (pa_cons (pv 1) (pa_cons (pv 2) pa_nil))) pa_nil))))))), ?_⟩
    refine ⟨_, rfl, by show 2 ≤ sizeLine; decide, fun L hL => ?_⟩
    have s0 : Same H (upd H L (.lst [.int (-1), .int 1])) := same_upd hL
    refine ⟨_, rfl, _, rfl, e, rfl, by omega, by omega, fun p H1 s1 np h1 => ?_⟩
    refine ⟨p, rfl, ⟨_, SqL.of h1⟩, for_list (K := K) (a := p) (xs := (primesL e).map V.int) (fun i σ H2 => ∃ (l : Addr) (u v : Option V), σ = [some (.int e), some (.ref l), some (.int (polyS e i).2), u, v] ∧ Same H H2 ∧ H2 p = some (.lst ((primesL e).map V.int)) ∧ H2 l = some (.lst ((polyS e i).1.map V.int)))
      ⟨L, none, none, rfl, s0.trans s1, h1, s1 _ _ upd_same⟩ (fun i σ H2 _ ⟨_, _, _, _, _, z, _⟩ => SqL.of z) ?_ ?_⟩
    · rintro i y σ H2 hi ⟨l, u, v, rfl, s2, h2, h3⟩
      obtain ⟨c, rfl, hc⟩ := getI hi
      have cb := er_primes e he c (List.mem_of_getElem? hc)
      have hil := ltL hc
      obtain ⟨o1, o2, o3, o4, o5⟩ := okS_of (er_ok e he i (List.mem_range.mpr (by omega)))
      obtain ⟨n, rfl⟩ := Int.eq_ofNat_of_zero_le (show 0 ≤ c by omega)
      refine ⟨_, rfl, _, rfl, l, _, n, rfl, SqL.of h3, by omega, by omega, by omega, by omega, fun q H3 s3 nq h4 => ?_⟩
      have hlen : (strL (polyS e i).1 n).length ≤ 10000 := by
        unfold strL
        rw [strN_len]
        have z : ((polyS e i).1.length - 1) * n ≤ 60 * 60 := Nat.mul_le_mul (by omega) (by omega)
        omega
      refine ⟨_, rfl, q, l, _, _, rfl, .inl (SqL.of h4), .inl (SqL.of (s3 _ _ h3)), by omega, by omega, hlen, o3, fun t a b H4 s4 nt na nb h5 h6 h7 => ?_⟩
      refine ⟨t, _, rfl, SqT.of h5, rfl, _, _, rfl, _, _, rfl, rfl, ?_⟩
      refine ⟨_, rfl, _, rfl, _, _, rfl, rfl, ⟨by omega, by omega⟩, ?_⟩
      refine ⟨a, some (.int (n : Int)), some (.ref b), ?_, (s2.trans s3).trans s4, s4 _ _ (s3 _ _ h2), ?_⟩
      · rw [polyS_succ hc]
        rfl
      · rw [polyS_succ hc]
        exact h6
    · rintro σ H2 ⟨l, u, v, rfl, s2, h2, h3⟩
      rw [List.length_map] at h3
      obtain ⟨o1, o2, o3, o4, o5⟩ := okS_of (er_ok e he (primesL e).length (List.mem_range.mpr (by omega)))
      obtain ⟨n, hn⟩ := Int.eq_ofNat_of_zero_le (show 0 ≤ (polyS e (primesL e).length).2 by omega)
      have hn' : (polyS e ((primesL e).map V.int).length).2 = (n : Int) := by rw [List.length_map]; exact hn
      refine ⟨_, rfl, _, rfl, l, (polyS e (primesL e).length).1, n, ?_, SqL.of h3, by omega, by omega, by omega, by omega, fun q H3 s3 nq h4 => ?_⟩
      · rw [hn']
        rfl
      · refine ⟨q, _, rfl, .inl ⟨SqL.of h4, fun t ht => ?_⟩⟩
        have n1 : H t = none := (s2.trans s3).free ht
        refine k t _ ((s2.trans s3).trans (same_upd ht)) n1 ?_
        rw [upd_same]
        have e9 : polyS e (primesL e).length = (primesL e).foldl polyStep ([-1, 1], e) := by
          unfold polyS
          rw [List.take_length]
        have e10 : polyL e = strL (polyS e (primesL e).length).1 n := by
          show strL ((primesL e).foldl polyStep ([-1, 1], e)).1 ((primesL e).foldl polyStep ([-1, 1], e)).2.toNat = _
          rw [← e9, hn]
          rfl
        rw [e10]
/-! ### reduced -/
def spRed (K : PySem.W.Frag) : Sp := fun vs H Q _ => ∃ (a b : Addr) (xs dv : List Int), vs = [.ref a, .ref b] ∧ SqI K H a xs ∧ SqT K H b (dv.map V.int) ∧ 2 ≤ dv.length ∧ dv.length ≤ 100 ∧ xs.length ≤ 100 ∧ (∀ d ∈ dv, -1000 ≤ d ∧ d ≤ 1000) ∧
  ∀ t H', Same H H' → H t = none → H' t = some (.tup ((redL xs dv).map V.int)) → Q (.ref t) H'
theorem scRed : FnScope ["items", "polynomial", "_", "rest"] ["items", "polynomial"] (defScope sRed) := ⟨rfl, rfl, rfl, by decide +kernel, rfl, by decide +kernel, by decide +kernel⟩
theorem divGo_len (deg : Nat) (dv : List Int) : ∀ n r q, r.length = deg + n → (divGo deg dv n r q).2.length = deg
  | 0, r, q, h => by simpa [divGo] using h
  | n + 1, r, q, h => by
    unfold divGo
    refine divGo_len deg dv n _ _ ?_
    show (subN _ _ _ _ _).length = _
    rw [subN_len, List.length_dropLast]
    omega
theorem divL_len {xs dv : List Int} (h1 : 1 ≤ dv.length) (h2 : dv.length ≤ xs.length) : (divL xs dv).2.length = dv.length - 1 := divGo_len _ _ _ _ _ (by omega)
theorem divL_le {xs dv : List Int} (h1 : 1 ≤ dv.length) : (divL xs dv).2.length ≤ dv.length - 1 := by
  by_cases h2 : dv.length ≤ xs.length
  · rw [divL_len h1 h2]
    exact Nat.le_refl _
  · have e : xs.length - (dv.length - 1) = 0 := by omega
    unfold divL
    rw [e]
    show xs.length ≤ _
    omega
theorem ok_red (F : FnP K "reduced" sRed f fd) (B : Bl mg) (FD : FnP K "_divided" sDiv fD fdD) (gD : mg "_divided" = some (.ref fD)) : FnOk P w K mg base CX0 2 f fd ["items", "polynomial"] (spRed K) := by
  have GD : FnOk P w K mg base CX0 1 fD fdD ["items", "divisor"] (spDiv K) := ok_div FD B
  have bD : Binds K fdD ["items", "divisor"] [] := FD.bindsN fun _ _ _ _ _ _ us hl => match us, hl with | [_, _], _ => rfl
  refine F.ok scRed (fun vs H Q E h => ?_) (fun cdv A outer s H vs Q E hr h => ?_)
  · obtain ⟨a, b, xs, dv, rfl, _⟩ := h
    rfl
  · obtain ⟨a, b, xs, dv, rfl, hS, hD, d1, d2, x1, db, k⟩ := h
    refine ⟨_, PSs.nox (pss_cons (ps_asg (pe_call GD hr rfl gD FD.kp bD .nil pass0 (pa_cons (pv 0) (pa_cons (pv 1) pa_nil))) (pg_tup rfl (pgs_cons (pg_name (i := 2) scRed.nd rfl (Or.inl rfl)) (pgs_cons (pg_name (i := 3) scRed.nd rfl (Or.inl rfl)) pgs_nil))))
      (pss_one (ps_ret (pe_callTy call_tuple_of (by rfl) (B "tuple" (by decide +kernel)) (by decide +kernel) (pa_cons (pe_op op_cat (pv 3) (pe_op op_rep (pe_lst (pa_cons pe_int pa_nil)) (pe_op op_sub (pe_op op_sub (pe_callB call_len_seq (by rfl) (B "len" (by decide +kernel)) PySem.boot_len (pa_cons (pv 1) pa_nil)) pe_int) (pe_callB call_len_seq (by rfl) (B "len" (by decide +kernel)) PySem.boot_len (pa_cons (pv 3) pa_nil))))) pa_nil))))), ?_⟩
    refine ⟨_, rfl, _, rfl, a, b, xs, dv, rfl, hS, .inr hD, by omega, by omega, by omega, db, fun t q r H1 s1 nt nq nr h1 h2 h3 => ?_⟩
    have dl : (divL xs dv).2.length ≤ dv.length - 1 := divL_le (by omega)
    generalize hm : dv.length - 1 - (divL xs dv).2.length = m
    refine ⟨t, _, rfl, SqT.of h1, rfl, _, _, rfl, _, _, rfl, rfl, ?_⟩
    refine ⟨_, rfl, by show 1 ≤ sizeLine; decide, fun z hz => ?_⟩
    have sz : Same H1 (upd H1 z (.lst [.int 0])) := same_upd hz
    refine ⟨_, rfl, b, _, rfl, .inr ((s1.trans sz).tup hD), _, _, rfl, rfl, _, rfl, r, _, rfl, .inl (SqL.of (sz _ _ h3)), _, _, rfl, rfl, z, _, _, rfl, rfl, upd_same, ?_⟩
    have ez : ((dv.map V.int).length : Int) - 1 - ((((divL xs dv).2).map V.int).length : Int) = (m : Int) := by
      rw [List.length_map, List.length_map]
      omega
    rw [ez, Int.toNat_natCast, rep_flat]
    refine ⟨by omega, by omega, by show 1 * m ≤ sizeLine; rw [sizeLine_eq]; omega, fun y hy => ?_⟩
    have sy : Same H1 (upd (upd H1 z (.lst [.int 0])) y (.lst (List.replicate m (V.int 0)))) := same_new sz hy
    refine ⟨r, y, _, _, rfl, rfl, sy _ _ h3, upd_same, sl_1000 (by rw [List.length_map, List.length_replicate]; omega), fun c hc => ?_⟩
    refine ⟨c, _, rfl, .inl ⟨SqL.of upd_same, fun t2 ht2 => ?_⟩⟩
    have s3 := same_new (o := .lst (((divL xs dv).2.map V.int) ++ List.replicate m (V.int 0))) sy hc
    refine k t2 _ ((s1.trans s3).trans (same_upd ht2)) ((s1.trans s3).free ht2) ?_
    rw [upd_same]
    unfold redL
    rw [hm, List.map_append]
    simp
end
end K45

namespace K45
open PySem PySem.Spec PyProof.Rows L2
section
variable {prog : Program} {w : World} {A : Around} {E : Value → Shared → Prop} {s : Shared} {t : Addr} {its : List Value} {ns : List Int} {Q : Value → Shared → Prop}
/-- min of a tuple of ints -/
theorem minT_raw (hh : A.handled = none) (ht : s.heap.IsTuple t its.toArray) (hi : IntsAre its ns) (hne : 0 < ns.length)
    (h : ∀ h' tk M t', (∀ b o, s.heap.get? b = some o → h'.get? b = some o) → M ∈ ns → (∀ a, a ∈ ns → M ≤ a) → Q (.int M t') { s with heap := h', toks := tk }) : wpAny (model prog w) A (call (.builtin "min") [.ref t]) Q E s := by
  obtain ⟨xs, e⟩ := hi.allInts.items
  have hn : numsOf (intItems xs).toList = ns := by rw [← e]; exact hi.numsOf
  rw [nums_intItems] at hn
  subst hn
  rw [e] at ht
  have hsz : 0 < xs.size := by simpa using hne
  obtain ⟨o0, g0, _⟩ := id ht
  have hlt := Heap.lt_size g0
  refine call_min_walk (wpAny_pyIter_tuple ht ?_)
  refine ⟨_, [s.heap.objs.size, t], [s.heap.objs.size], _, _, _, _, rfl, Walks.tuple (A := A.in1) hh s.heap.objs.size t (Nat.ne_of_lt hlt) (intItems xs), ⟨⟨_, Heap.get?_push_size _ rfl, rfl, rfl⟩, ht.push _⟩, fun d hd => ?_, by simpa [intItems] using hsz, CmpOf.ints_lt (numAt xs) (fun _ _ => intItems_at), fun v h' tk hP hk => ?_⟩
  · show d < (s.heap.push _).objs.size
    rw [Heap.size_push]
    rcases List.mem_cons.mp hd with rfl | hd
    · exact Nat.lt_succ_self _
    · rw [List.mem_singleton.mp hd]
      exact Nat.lt_succ_of_lt hlt
  · obtain ⟨tt, rfl⟩ := intItems_at hP
    have sz : (intItems xs).size = xs.size := by simp [intItems]
    obtain ⟨h1, h2⟩ := argBest_lt (numAt xs) ((intItems xs).size - 1)
    refine h h' tk _ tt (fun b o g => hk b o (fun z => ?_) (Heap.get?_push_of_some _ g)) ?_ fun a ha => ?_
    · rw [List.mem_singleton.mp z] at g
      exact absurd (Heap.lt_size g) (Nat.lt_irrefl _)
    · rw [numAt_eq]; exact PySem.getD_mem (by rw [List.length_map, Array.length_toList]; omega)
    · obtain ⟨j, hj, rfl⟩ := mem_getD ha
      rw [List.length_map, Array.length_toList] at hj
      rw [← numAt_eq]; exact h2 j (by omega)
end
section
variable {X : Cx}
def rMinT (K : PySem.W.Frag) : List V → Hp → VK → Prop := fun vs H Q => ∃ (a : Addr) (ns : List Int), vs = [V.ref a] ∧ SqT K H a (ns.map V.int) ∧ 0 < ns.length ∧ ∀ m, m ∈ ns → (∀ y, y ∈ ns → m ≤ y) → Q (.int m) H
theorem cr_minT (hc : X.calm = true) : CallR X (.builtin "min") (rMinT X.K) := by
  intro pins s σ H vs us Q I r h
  obtain ⟨a, ns, rfl, hs, hne, q⟩ := h
  obtain ⟨its, rv, hl, _⟩ := I.tuple hs
  rw [Vals.ref1 r]
  exact minT_raw (I.ok.hd hc) hl rv.ints hne fun h' tk m t' hk h1 h2 => ⟨.int _, H, I.kept hk, ⟨_, rfl⟩, q m h1 h2⟩
theorem tyT {K : PySem.W.Frag} {H : Hp} {a : Addr} {xs : List V} (h : SqT K H a xs) : TyX K H (.ref a) (.type "tuple") := by
  rcases h with h | ⟨o, its, n, hk, hc, _⟩
  · rcases h with h | ⟨o, h⟩
    · exact .base (.tup h)
    · exact .fTuple h
  · exact .kTuple hk hc
end
/-! ### the kinds -/
section
variable {P : Program} {w : World} {K : PySem.W.Frag} {mg : Str → Option Value} {base : Heap} {f f1 f2 f3 : Addr} {fd fd1 fd2 fd3 : FuncData}
def spIsInt : Sp := fun vs H Q _ => ∃ i : Int, vs = [.int i] ∧ Q (.bl true) H
theorem scIsInt : FnScope ["thing"] ["thing"] (defScope sIsInt) := ⟨rfl, rfl, rfl, by decide +kernel, rfl, by decide +kernel, by decide +kernel⟩
theorem ok_isInt (F : FnP K "is_integer" sIsInt f fd) (B : Bl mg) : FnOk P w K mg base CX0 1 f fd ["thing"] spIsInt := by
  refine F.ok scIsInt (fun vs H Q E h => ?_) (fun cdv A outer s H vs Q E hr h => ?_)
  · obtain ⟨e, rfl, _⟩ := h
    rfl
  · obtain ⟨i, rfl, k⟩ := h
    refine ⟨_, PSs.nox (pss_one (ps_ret (pe_and (pe_callB call_isi (by rfl) (B "isinstance" (by decide +kernel)) (by decide +kernel) (pa_cons (pv 0) (pa_cons (pe_bltn (v := .ty "int") rfl (B "int" (by decide +kernel)) (by decide +kernel) rfl) pa_nil)))
      (pe_one (pe_not (pe_callB call_isi (by rfl) (B "isinstance" (by decide +kernel)) (by decide +kernel) (pa_cons (pv 0) (pa_cons (pe_bltn (v := .ty "bool") rfl (B "bool" (by decide +kernel)) (by decide +kernel) rfl) pa_nil)))))))), ?_⟩
    refine ⟨_, rfl, _, _, .type "int", _, true, rfl, .ty "int", .base (.int i), kit_ty (by decide +kernel), true, rfl, ?_⟩
    exact ⟨_, rfl, _, _, .type "int", _, false, rfl, .ty "bool", .base (.int i), kit_ty (by decide +kernel), false, rfl, k⟩
def spIsInts (K : PySem.W.Frag) : Sp := fun vs H Q _ => ∃ (v : V) (ns : List Int), vs = [v] ∧ TupI K H v ns ∧ ns.length ≤ 100 ∧ ∀ H', Same H H' → Q (.bl true) H'
theorem scIsInts : FnScope ["thing", "item"] ["thing"] (defScope sIsInts) := ⟨rfl, rfl, rfl, by decide +kernel, rfl, by decide +kernel, by decide +kernel⟩
theorem all_true (n : Nat) : (List.replicate n true).all id = true := by simp
theorem ok_isInts (F : FnP K "is_integers" sIsInts f fd) (B : Bl mg) (F1 : FnP K "is_integer" sIsInt f1 fd1) (g1 : mg "is_integer" = some (.ref f1)) : FnOk P w K mg base CX0 2 f fd ["thing"] (spIsInts K) := by
  have G1 : FnOk P w K mg base CX0 1 f1 fd1 ["thing"] spIsInt := ok_isInt F1 B
  have b1 : Binds K fd1 ["thing"] [] := F1.bindsN fun _ _ _ _ _ _ us hl => match us, hl with | [_], _ => rfl
  refine F.ok scIsInts (fun vs H Q E h => ?_) (fun cdv A outer s H vs Q E hr h => ?_)
  · obtain ⟨v, ns, rfl, _⟩ := h
    rfl
  · obtain ⟨v, ns, rfl, ⟨a, rfl, ha⟩, hl, k⟩ := h
    refine ⟨_, PSs.nox (pss_one (ps_ret (pe_and (pe_callB call_isi (by rfl) (B "isinstance" (by decide +kernel)) (by decide +kernel) (pa_cons (pv 0) (pa_cons (pe_bltn (v := .ty "tuple") rfl (B "tuple" (by decide +kernel)) (by decide +kernel) rfl) pa_nil)))
      (pe_one (pe_callB (cr_all rfl) (by rfl) (B "all" (by decide +kernel)) (by decide +kernel) (pa_cons (pe_lc (own := [("item", 1)]) (g := gName 1) (tt := tYes) (te := tCall spIsInt [] E0 (tCons (tVar 1) tNil)) rfl scIsInts.nd (pi_tup (pv 0))
        (blkOk_by (own := [("item", 1)]) (N := ["thing", "item"]) (sc := defScope sIsInts) (by decide +kernel)) (fun _ _ _ _ _ => pg_name (i := 1) scIsInts.nd rfl (Or.inl rfl)) (fun _ _ _ _ _ => pts_nil) (fun _ _ _ _ _ => pe_call G1 hr rfl g1 F1.kp b1 .nil pass0 (pa_cons (pv 1) pa_nil))) pa_nil)))))), ?_⟩
    refine ⟨_, rfl, _, _, .type "tuple", _, true, rfl, .ty "tuple", tyT ha, kit_ty (by decide +kernel), true, rfl, ?_⟩
    refine ⟨_, rfl, a, rfl, ⟨_, ha⟩, fun D hD => ?_⟩
    refine lc_tup (K := K) (a := a) (xs := ns.map V.int) (fun i H2 => Same H H2 ∧ H2 D = some (.lst ((List.replicate i true).map V.bl))) ⟨same_upd hD, upd_same⟩ (fun i H2 _ ⟨s2, _⟩ => s2.tup ha) ?_ ?_
    · rintro i y H2 hi ⟨s2, h2⟩
      obtain ⟨c, rfl, hc⟩ := getI hi
      have := ltL hc
      refine ⟨rfl, _, rfl, c, rfl, _, h2, sl_lt (by rw [List.length_map, List.length_replicate]; omega), same_at s2 hD, ?_⟩
      rw [upd_same, List.replicate_succ', List.map_append]
      rfl
    · rintro H2 ⟨s2, h2⟩
      refine ⟨D, _, rfl, SqL.of h2, ?_⟩
      rw [all_true]
      exact k H2 s2
/-! ### _size -/
def spSize (K : PySem.W.Frag) : Sp := fun vs H Q _ => ∃ (v : V) (r : List Int), vs = [v] ∧ TupI K H v r ∧ r ∈ RR ∧ ∃ n : Int, n ≤ 60 ∧ Q (.int n) H
theorem rr_size : ∀ r ∈ RR, ∀ i ∈ List.range (r.length + 1), 1 ≤ sizeL (r.take i) ∧ sizeL (r.take i) ≤ 60 := by decide +kernel
def spSize' (K : PySem.W.Frag) : Sp := fun vs H Q _ => ∃ (v : V) (r : List Int), vs = [v] ∧ TupI K H v r ∧ r ∈ RR ∧ Q (.int (sizeL r)) H
theorem scSize : FnScope ["lengths", "size", "length"] ["lengths"] (defScope sSize) := ⟨rfl, rfl, rfl, by decide +kernel, rfl, by decide +kernel, by decide +kernel⟩
theorem size_take {r : List Int} {i : Nat} {x : Int} (h : r[i]? = some x) : sizeL (r.take (i + 1)) = sizeL (r.take i) * x := by
  rw [takeS h]
  unfold sizeL
  rw [List.foldl_append]
  rfl
theorem ok_size (F : FnP K "_size" sSize f fd) : FnOk P w K mg base CX0 1 f fd ["lengths"] (spSize' K) := by
  refine F.ok scSize (fun vs H Q E h => ?_) (fun cdv A outer s H vs Q E hr h => ?_)
  · obtain ⟨v, r, rfl, _⟩ := h
    rfl
  · obtain ⟨v, r, rfl, ⟨a, rfl, ha⟩, h14, k⟩ := h
    refine ⟨_, PSs.nox (pss_cons (ps_set (i := 1) scSize.nd rfl (Or.inl rfl) pe_int)
      (pss_cons (ps_for PassesOwn.never rfl (pi_tup (pv 0)) (pg_name (i := 2) scSize.nd rfl (Or.inl rfl)) (pss_one (ps_set (i := 1) scSize.nd rfl (Or.inl rfl) (pe_op op_mul (pv 1) (pv 2)))))
      (pss_one (ps_ret (pv 1))))), ?_⟩
    refine ⟨_, rfl, a, rfl, ⟨_, ha⟩, for_tup (K := K) (a := a) (xs := r.map V.int) (fun i σ H2 => ∃ u, σ = [some (.ref a), some (.int (sizeL (r.take i))), u] ∧ H2 = H) ⟨none, rfl, rfl⟩ (fun i σ H2 _ ⟨_, _, e⟩ => by rw [e]; exact ha) ?_ ?_⟩
    · rintro i y σ H2 hi ⟨u, rfl, rfl⟩
      obtain ⟨c, rfl, hc⟩ := getI hi
      have hl := ltL hc
      have h1 := rr_size r h14 i (List.mem_range.mpr (by omega))
      refine ⟨_, rfl, _, rfl, _, _, rfl, rfl, Or.inl ⟨by omega, by omega⟩, some (.int c), by rw [size_take hc]; rfl, rfl⟩
    · rintro σ H2 ⟨u, rfl, rfl⟩
      refine ⟨_, rfl, ?_⟩
      rw [List.length_map, List.take_length]
      exact k
end
end K45

namespace K45
open PySem PySem.Spec PyProof.Rows L2
theorem rr_whole {r : List Int} (h : r ∈ RR) {p : List Int} (hp : p ∈ placesL r) : p.length = r.length := by
  have z := rr_plen r h r.length (List.mem_range.mpr (Nat.lt_succ_self _))
  rw [List.take_length] at z
  exact z p hp
theorem rr_bd : ∀ r ∈ RR, ∀ p ∈ placesL r, ∀ i ∈ List.range r.length, 0 ≤ p.getD i 0 ∧ p.getD i 0 < r.getD i 0 := by decide +kernel
theorem rr_it : ∀ r ∈ RR, ∀ p ∈ placesL r, ∀ x ∈ p, 0 ≤ x ∧ x < 60 := by decide +kernel
section
variable {P : Program} {w : World} {K : PySem.W.Frag} {mg : Str → Option Value} {base : Heap} {f f1 f2 f3 f4 : Addr} {fd fd1 fd2 fd3 fd4 : FuncData}
/-! ### are_rings, check_rings -/
def spAre (K : PySem.W.Frag) : Sp := fun vs H Q _ => ∃ (v : V) (r : List Int), vs = [v] ∧ TupI K H v r ∧ r ∈ RR ∧ ∀ H', Same H H' → Q (.bl true) H'
theorem scAre : FnScope ["thing"] ["thing"] (defScope sAre) := ⟨rfl, rfl, rfl, by decide +kernel, rfl, by decide +kernel, by decide +kernel⟩
theorem ok_are (F : FnP K "are_rings" sAre f fd) (B : Bl mg) (F1 : FnP K "is_integers" sIsInts f1 fd1) (g1 : mg "is_integers" = some (.ref f1)) (G1 : FnOk P w K mg base CX0 2 f1 fd1 ["thing"] (spIsInts K)) (F2 : FnP K "_size" sSize f2 fd2) (g2 : mg "_size" = some (.ref f2))
    (gR : ∃ t, mg "MOST_RINGS" = some (.int 4 t)) (gP : ∃ t, mg "MOST_PLACES" = some (.int 60 t)) : FnOk P w K mg base CX0 3 f fd ["thing"] (spAre K) := by
  have G2 : FnOk P w K mg base CX0 1 f2 fd2 ["lengths"] (spSize' K) := ok_size F2
  have b1 : Binds K fd1 ["thing"] [] := F1.bindsN fun _ _ _ _ _ _ us hl => match us, hl with | [_], _ => rfl
  have b2 : Binds K fd2 ["lengths"] [] := F2.bindsN fun _ _ _ _ _ _ us hl => match us, hl with | [_], _ => rfl
  obtain ⟨t1, e1⟩ := gR
  obtain ⟨t2, e2⟩ := gP
  refine F.ok scAre (fun vs H Q E h => ?_) (fun cdv A outer s H vs Q E hr h => ?_)
  · obtain ⟨v, r, rfl, _⟩ := h
    rfl
  · obtain ⟨v, r, rfl, ⟨a, rfl, ha⟩, h14, k⟩ := h
    refine ⟨_, PSs.nox (pss_cons (ps_if (PW.pt (pw_or (pt_not (pt_val (pe_call G1 hr rfl g1 F1.kp b1 .nil pass0 (pa_cons (pv 0) pa_nil)))) (pw_or1 (pt_not (pt_chain op_le op_le pe_int (pe_callB call_len_seq (by rfl) (B "len" (by decide +kernel)) PySem.boot_len (pa_cons (pv 0) pa_nil)) (pe_glob (v := .int 4) rfl e1 ⟨_, rfl⟩))))))
        (pss_one ps_never) pss_nil)
      (pss_one (ps_ret (pe_and (pe_cmpR op_ge (pe_callB (cr_minT rfl) (by rfl) (B "min" (by decide +kernel)) (by decide +kernel) (pa_cons (pv 0) pa_nil)) pe_int (nomark _))
        (pe_one (pe_cmpR op_le (pe_call G2 (hr.mono (by decide)) rfl g2 F2.kp b2 .nil pass0 (pa_cons (pv 0) pa_nil)) (pe_glob (v := .int 60) rfl e2 ⟨_, rfl⟩) (nomark _))))))), ?_⟩
    have hn := rr_len r h14
    refine ⟨_, rfl, _, r, rfl, ⟨a, rfl, ha⟩, by omega, fun H1 s1 => ?_⟩
    have ha1 : SqT K H1 a (r.map V.int) := s1.tup ha
    refine ⟨_, rfl, ?_⟩
    refine iteF ?_
    refine ⟨_, rfl, a, _, rfl, .inr ha1, _, _, rfl, rfl, _, rfl, ?_⟩
    have c1 : decide ((1 : Int) ≤ ((r.map V.int).length : Int)) = true := decide_eq_true (by rw [List.length_map]; omega)
    have c2 : decide (((r.map V.int).length : Int) ≤ 4) = true := decide_eq_true (by rw [List.length_map]; omega)
    refine ite2 (fun _ => ?_) (fun z => absurd c1 z)
    refine ⟨_, _, rfl, rfl, _, rfl, ?_⟩
    rw [c2]
    refine iteF ?_
    refine ⟨_, rfl, a, r, rfl, ha1, by omega, fun m hm hle => ⟨_, _, rfl, rfl, _, rfl, ?_⟩⟩
    have c3 : decide ((2 : Int) ≤ m) = true := decide_eq_true (rr_pos r h14 m hm).1
    refine ite2 (fun _ => ?_) (fun z => absurd c3 z)
    have z := rr_size r h14 r.length (List.mem_range.mpr (Nat.lt_succ_self _))
    rw [List.take_length] at z
    refine ⟨_, rfl, _, r, rfl, ⟨a, rfl, ha1⟩, h14, _, _, rfl, rfl, ?_⟩
    have c4 : decide (sizeL r ≤ 60) = true := decide_eq_true z.2
    show Q (.bl (decide (sizeL r ≤ 60))) H1
    rw [c4]
    exact k H1 s1
def spNon (K : PySem.W.Frag) : Sp := fun vs H Q _ => ∃ (v : V) (r : List Int), vs = [v] ∧ TupI K H v r ∧ r ∈ RR ∧ ∀ H', Same H H' → Q .non H'
theorem scChkR : FnScope ["rings"] ["rings"] (defScope sChkR) := ⟨rfl, rfl, rfl, by decide +kernel, rfl, by decide +kernel, by decide +kernel⟩
theorem ok_chkR (F : FnP K "check_rings" sChkR f fd) (F1 : FnP K "are_rings" sAre f1 fd1) (g1 : mg "are_rings" = some (.ref f1)) (G1 : FnOk P w K mg base CX0 3 f1 fd1 ["thing"] (spAre K)) : FnOk P w K mg base CX0 4 f fd ["rings"] (spNon K) := by
  have b1 : Binds K fd1 ["thing"] [] := F1.bindsN fun _ _ _ _ _ _ us hl => match us, hl with | [_], _ => rfl
  refine F.ok scChkR (fun vs H Q E h => ?_) (fun cdv A outer s H vs Q E hr h => ?_)
  · obtain ⟨v, r, rfl, _⟩ := h
    rfl
  · obtain ⟨v, r, rfl, ⟨a, rfl, ha⟩, h14, k⟩ := h
    refine ⟨_, PSs.nox (pss_one (ps_if (pt_not (pt_val (pe_call G1 hr rfl g1 F1.kp b1 .nil pass0 (pa_cons (pv 0) pa_nil)))) (pss_one ps_never) pss_nil)), ?_⟩
    refine ⟨_, rfl, _, r, rfl, ⟨a, rfl, ha⟩, h14, fun H1 s1 => ⟨_, rfl, iteF (k H1 s1)⟩⟩
theorem scOrdOf : FnScope ["rings"] ["rings"] (defScope sOrdOf) := ⟨rfl, rfl, rfl, by decide +kernel, rfl, by decide +kernel, by decide +kernel⟩
theorem ok_ordOf (F : FnP K "order_of" sOrdOf f fd) (F1 : FnP K "check_rings" sChkR f1 fd1) (g1 : mg "check_rings" = some (.ref f1)) (G1 : FnOk P w K mg base CX0 4 f1 fd1 ["rings"] (spNon K)) (F2 : FnP K "common_order" sOrder f2 fd2) (g2 : mg "common_order" = some (.ref f2)) (G2 : FnOk P w K mg base CX0 1 f2 fd2 ["rings"] (spOrder K)) : FnOk P w K mg base CX0 5 f fd ["rings"] (spOrder K) := by
  have b1 : Binds K fd1 ["rings"] [] := F1.bindsN fun _ _ _ _ _ _ us hl => match us, hl with | [_], _ => rfl
  have b2 : Binds K fd2 ["rings"] [] := F2.bindsN fun _ _ _ _ _ _ us hl => match us, hl with | [_], _ => rfl
  refine F.ok scOrdOf (fun vs H Q E h => ?_) (fun cdv A outer s H vs Q E hr h => ?_)
  · obtain ⟨v, r, rfl, _⟩ := h
    rfl
  · obtain ⟨v, r, rfl, ⟨a, rfl, ha⟩, h14, k⟩ := h
    refine ⟨_, PSs.nox (pss_cons (ps_expr (pe_call G1 hr rfl g1 F1.kp b1 .nil pass0 (pa_cons (pv 0) pa_nil))) (pss_one (ps_ret (pe_call G2 (hr.mono (by decide)) rfl g2 F2.kp b2 .nil pass0 (pa_cons (pv 0) pa_nil))))), ?_⟩
    exact ⟨_, rfl, _, r, rfl, ⟨a, rfl, ha⟩, h14, fun H1 s1 => ⟨_, rfl, _, r, rfl, ⟨a, rfl, s1.tup ha⟩, h14, fun H2 s2 => k H2 (s1.trans s2)⟩⟩
/-! ### is_place, check_place -/
def spIsPl (K : PySem.W.Frag) : Sp := fun vs H Q _ => ∃ (v u : V) (r p : List Int), vs = [v, u] ∧ TupI K H v r ∧ TupI K H u p ∧ r ∈ RR ∧ p ∈ placesL r ∧ ∀ H', Same H H' → Q (.bl true) H'
theorem scIsPl : FnScope ["rings", "thing", "k"] ["rings", "thing"] (defScope sIsPl) := ⟨rfl, rfl, rfl, by decide +kernel, rfl, by decide +kernel, by decide +kernel⟩
theorem ok_isPl (F : FnP K "is_place" sIsPl f fd) (B : Bl mg) (F1 : FnP K "is_integers" sIsInts f1 fd1) (g1 : mg "is_integers" = some (.ref f1)) (G1 : FnOk P w K mg base CX0 2 f1 fd1 ["thing"] (spIsInts K)) : FnOk P w K mg base CX0 3 f fd ["rings", "thing"] (spIsPl K) := by
  have b1 : Binds K fd1 ["thing"] [] := F1.bindsN fun _ _ _ _ _ _ us hl => match us, hl with | [_], _ => rfl
  refine F.ok scIsPl (fun vs H Q E h => ?_) (fun cdv A outer s H vs Q E hr h => ?_)
  · obtain ⟨v, u, r, p, rfl, _⟩ := h
    rfl
  · obtain ⟨v, u, r, p, rfl, ⟨a, rfl, ha⟩, ⟨b, rfl, hb⟩, h14, hp, k⟩ := h
    refine ⟨_, PSs.nox (pss_cons (ps_if (PW.pt (pw_or (pt_not (pt_val (pe_call G1 hr rfl g1 F1.kp b1 .nil pass0 (pa_cons (pv 1) pa_nil)))) (pw_or1 (pt_cmpR op_ne (pe_callB call_len_seq (by rfl) (B "len" (by decide +kernel)) PySem.boot_len (pa_cons (pv 1) pa_nil)) (pe_callB call_len_seq (by rfl) (B "len" (by decide +kernel)) PySem.boot_len (pa_cons (pv 0) pa_nil)) (nomark _)))))
        (pss_one ps_never) pss_nil)
      (pss_one (ps_ret (pe_callB (cr_all rfl) (by rfl) (B "all" (by decide +kernel)) (by decide +kernel) (pa_cons
        (pe_lc (own := [("k", 2)]) (g := gName 2) (tt := tYes) (te := tChain (rI0 fun i j => .bl (decide (i ≤ j))) (rI0 fun i j => .bl (decide (i < j))) (tC (.int 0)) (tOp (rIxT K) (tVar 1) (tVar 2)) (tOp (rIxT K) (tVar 0) (tVar 2))) rfl scIsPl.nd (pi_range1 rfl (B "range" (by decide +kernel)) (pa_cons (pe_callB call_len_seq (by rfl) (B "len" (by decide +kernel)) PySem.boot_len (pa_cons (pv 0) pa_nil)) pa_nil))
          (blkOk_by (own := [("k", 2)]) (N := ["rings", "thing", "k"]) (sc := defScope sIsPl) (by decide +kernel)) (fun _ _ _ _ _ => pg_name (i := 2) scIsPl.nd rfl (Or.inl rfl)) (fun _ _ _ _ _ => pts_nil) (fun _ _ _ _ _ => pe_chain op_le op_lt pe_int (pe_ix ix_tup (pv 1) (pv 2) (fun _ _ => rfl)) (pe_ix ix_tup (pv 0) (pv 2) (fun _ _ => rfl)))) pa_nil))))), ?_⟩
    have hn := rr_len r h14
    have hl := rr_whole h14 hp
    refine ⟨_, rfl, _, p, rfl, ⟨b, rfl, hb⟩, by omega, fun H1 s1 => ⟨_, rfl, iteF ?_⟩⟩
    refine ⟨_, rfl, b, _, rfl, .inr (s1.tup hb), _, rfl, a, _, rfl, .inr (s1.tup ha), rfl, _, rfl, ?_⟩
    refine iteNS (by rw [List.length_map, List.length_map, hl]) ?_
    refine ⟨_, rfl, a, _, rfl, .inr (s1.tup ha), _, rfl, by rw [List.length_map]; omega, by rw [List.length_map]; omega, fun D hD => ?_⟩
    have en : ((r.map V.int).length : Int).toNat = r.length := by rw [List.length_map]; omega
    rw [en]
    refine lc_range (lo := 0) (n := r.length) (fun i H2 => Same H1 H2 ∧ H2 D = some (.lst ((List.replicate i true).map V.bl))) ⟨same_upd hD, upd_same⟩ ?_ ?_
    · rintro i H2 hi ⟨s2, h2⟩
      have e0 : (0 : Int) + (i : Int) = (i : Int) := Int.zero_add _
      have bd := rr_bd r h14 p hp i (List.mem_range.mpr hi)
      have g1' : atI (p.map V.int) ((0 : Int) + (i : Int)) = some (V.int (p.getD i 0)) := by rw [e0]; exact atI_nat (getD_of (by omega))
      have g2' : atI (r.map V.int) ((0 : Int) + (i : Int)) = some (V.int (r.getD i 0)) := by rw [e0]; exact atI_nat (getD_of hi)
      have c1 : decide ((0 : Int) ≤ p.getD i 0) = true := decide_eq_true bd.1
      have c2 : decide (p.getD i 0 < r.getD i 0) = true := decide_eq_true bd.2
      refine ⟨rfl, _, rfl, _, rfl, b, _, _, _, rfl, rfl, (s1.trans s2).tup hb, g1', _, _, rfl, rfl, _, rfl, ?_⟩
      refine ite2 (fun _ => ?_) (fun z => absurd c1 z)
      refine ⟨_, rfl, _, rfl, a, _, _, _, rfl, rfl, (s1.trans s2).tup ha, g2', _, _, rfl, rfl, ?_⟩
      refine ⟨_, h2, sl_lt (by rw [List.length_map, List.length_replicate]; omega), same_at s2 hD, ?_⟩
      rw [upd_same, List.replicate_succ', List.map_append]
      show some (HO.lst (_ ++ [V.bl (decide (p.getD i 0 < r.getD i 0))])) = _
      rw [c2]
      rfl
    · rintro H2 ⟨s2, h2⟩
      refine ⟨D, _, rfl, SqL.of h2, ?_⟩
      rw [all_true]
      exact k H2 (s1.trans s2)
def spChkP (K : PySem.W.Frag) : Sp := fun vs H Q _ => ∃ (v u : V) (r p : List Int), vs = [v, u] ∧ TupI K H v r ∧ TupI K H u p ∧ r ∈ RR ∧ p ∈ placesL r ∧ ∀ H', Same H H' → Q .non H'
theorem scChkP : FnScope ["rings", "place"] ["rings", "place"] (defScope sChkP) := ⟨rfl, rfl, rfl, by decide +kernel, rfl, by decide +kernel, by decide +kernel⟩
theorem ok_chkP (F : FnP K "check_place" sChkP f fd) (F1 : FnP K "check_rings" sChkR f1 fd1) (g1 : mg "check_rings" = some (.ref f1)) (G1 : FnOk P w K mg base CX0 4 f1 fd1 ["rings"] (spNon K)) (F2 : FnP K "is_place" sIsPl f2 fd2) (g2 : mg "is_place" = some (.ref f2)) (G2 : FnOk P w K mg base CX0 3 f2 fd2 ["rings", "thing"] (spIsPl K)) :
    FnOk P w K mg base CX0 5 f fd ["rings", "place"] (spChkP K) := by
  have b1 : Binds K fd1 ["rings"] [] := F1.bindsN fun _ _ _ _ _ _ us hl => match us, hl with | [_], _ => rfl
  have b2 : Binds K fd2 ["rings", "thing"] [] := F2.bindsN fun _ _ _ _ _ _ us hl => match us, hl with | [_, _], _ => rfl
  refine F.ok scChkP (fun vs H Q E h => ?_) (fun cdv A outer s H vs Q E hr h => ?_)
  · obtain ⟨v, u, r, p, rfl, _⟩ := h
    rfl
  · obtain ⟨v, u, r, p, rfl, ⟨a, rfl, ha⟩, ⟨b, rfl, hb⟩, h14, hp, k⟩ := h
    refine ⟨_, PSs.nox (pss_cons (ps_expr (pe_call G1 hr rfl g1 F1.kp b1 .nil pass0 (pa_cons (pv 0) pa_nil)))
      (pss_one (ps_if (pt_not (pt_val (pe_call G2 (hr.mono (by decide)) rfl g2 F2.kp b2 .nil pass0 (pa_cons (pv 0) (pa_cons (pv 1) pa_nil))))) (pss_one ps_never) pss_nil))), ?_⟩
    exact ⟨_, rfl, _, r, rfl, ⟨a, rfl, ha⟩, h14, fun H1 s1 => ⟨_, rfl, _, rfl, _, _, r, p, rfl, ⟨a, rfl, s1.tup ha⟩, ⟨b, rfl, s1.tup hb⟩, h14, hp, fun H2 s2 => ⟨_, rfl, iteF (k H2 (s1.trans s2))⟩⟩⟩
end
end K45

namespace K45
open PySem PySem.Spec PyProof.Rows L2
theorem n1 : ¬ (("rings" : Str) = "order") := by decide +kernel
theorem n2 : ¬ (("rings" : Str) = "polynomial") := by decide +kernel
theorem n3 : ¬ (("rings" : Str) = "degree") := by decide +kernel
theorem n4 : ¬ (("rings" : Str) = "places") := by decide +kernel
theorem n5 : ¬ (("order" : Str) = "polynomial") := by decide +kernel
theorem n6 : ¬ (("order" : Str) = "degree") := by decide +kernel
theorem n7 : ¬ (("order" : Str) = "places") := by decide +kernel
theorem n8 : ¬ (("polynomial" : Str) = "degree") := by decide +kernel
theorem n9 : ¬ (("polynomial" : Str) = "places") := by decide +kernel
theorem n10 : ¬ (("degree" : Str) = "places") := by decide +kernel
/-- the attributes of a floor -/
def flds (a : Addr) (e : Int) (po : Addr) (d : Int) (pl : Addr) : List (Str × V) := [("rings", .ref a), ("order", .int e), ("polynomial", .ref po), ("degree", .int d), ("places", .ref pl)]
theorem pf1 (a : Addr) : putF "rings" (.ref a) [] = [(("rings" : Str), V.ref a)] := rfl
theorem pf2 (a : Addr) (e : Int) : putF "order" (.int e) [("rings", V.ref a)] = [(("rings" : Str), V.ref a), ("order", .int e)] := by simp [putF, n1]
theorem pf3 (a : Addr) (e : Int) (po : Addr) : putF "polynomial" (.ref po) [("rings", V.ref a), ("order", .int e)] = [(("rings" : Str), V.ref a), ("order", .int e), ("polynomial", .ref po)] := by simp [putF, n2, n5]
theorem pf4 (a : Addr) (e : Int) (po : Addr) (d : Int) : putF "degree" (.int d) [("rings", V.ref a), ("order", .int e), ("polynomial", .ref po)] = [(("rings" : Str), V.ref a), ("order", .int e), ("polynomial", .ref po), ("degree", .int d)] := by simp [putF, n3, n6, n8]
theorem pf5 (a : Addr) (e : Int) (po : Addr) (d : Int) (pl : Addr) : putF "places" (.ref pl) [("rings", V.ref a), ("order", .int e), ("polynomial", .ref po), ("degree", .int d)] = flds a e po d pl := by simp [putF, flds, n4, n7, n9, n10]
theorem lk {x y : Str} {v : V} {r : List (Str × V)} (h : ¬ x = y) : ((x, v) :: r).lookup y = r.lookup y := by
  rw [List.lookup_cons]
  have e : (y == x) = false := by
    rw [beq_eq_false_iff_ne]
    exact fun z => h z.symm
  rw [e]
theorem lk0 {x : Str} {v : V} {r : List (Str × V)} : ((x, v) :: r).lookup x = some v := by
  rw [List.lookup_cons, beq_self_eq_true]
theorem g_rings {a e po d pl} : (flds a e po d pl).lookup ("rings" : Str) = some (.ref a) := lk0
theorem g_order {a e po d pl} : (flds a e po d pl).lookup ("order" : Str) = some (.int e) := by
  unfold flds
  rw [lk n1, lk0]
theorem g_poly {a e po d pl} : (flds a e po d pl).lookup ("polynomial" : Str) = some (.ref po) := by
  unfold flds
  rw [lk n2, lk n5, lk0]
theorem g_degree {a e po d pl} : (flds a e po d pl).lookup ("degree" : Str) = some (.int d) := by
  unfold flds
  rw [lk n3, lk n6, lk n8, lk0]
theorem g_places {a e po d pl} : (flds a e po d pl).lookup ("places" : Str) = some (.ref pl) := by
  unfold flds
  rw [lk n4, lk n7, lk n9, lk n10, lk0]
theorem g_no {a e po d pl} : (flds a e po d pl).lookup ("pairing_of" : Str) = none := by
  unfold flds
  rw [lk (by decide +kernel), lk (by decide +kernel), lk (by decide +kernel), lk (by decide +kernel), lk (by decide +kernel)]
  rfl
structure FlT (K : PySem.W.Frag) (mg : Str → Option Value) (C fI fM : Addr) : Prop where
  cl : Cls K C
  aR : NoAttr K C "rings"
  aO : NoAttr K C "order"
  aP : NoAttr K C "polynomial"
  aD : NoAttr K C "degree"
  aL : NoAttr K C "places"
  mkk : Mk K C fI
  mt : Meth K C "pairing_of" fM
  mgC : mg "Floor" = some (.ref C)
/-- a floor of these rings at p -/
def FloorAt (K : PySem.W.Frag) (C : Addr) (H : Hp) (p : Addr) (r : List Int) : Prop := ∃ (dx a po pl : Addr), H p = some (.ins C dx (flds a (ordL r) po (((polyL (ordL r)).length : Int) - 1) pl)) ∧ SqT K H a (r.map V.int) ∧ SqT K H po ((polyL (ordL r)).map V.int) ∧ PlL K H pl (placesL r)
theorem _root_.L2.Same.floor {K : PySem.W.Frag} {C : Addr} {H H' : Hp} {p : Addr} {r : List Int} (e : Same H H') (h : FloorAt K C H p r) : FloorAt K C H' p r := by
  obtain ⟨dx, a, po, pl, h1, h2, h3, h4⟩ := h
  exact ⟨dx, a, po, pl, e _ _ h1, e.tup h2, e.tup h3, e.pll h4⟩
section
variable {P : Program} {w : World} {K : PySem.W.Frag} {mg : Str → Option Value} {base : Heap} {f f1 f2 f3 f4 C fI fM : Addr} {fd fd1 fd2 fd3 fd4 : FuncData}
def spFInit (K : PySem.W.Frag) (C : Addr) : Sp := fun vs H Q _ => ∃ (p dx : Addr) (v : V) (r : List Int), vs = [.ref p, v] ∧ H p = some (.ins C dx []) ∧ TupI K H v r ∧ r ∈ RR ∧ ∀ H', FloorAt K C H' p r → (∀ b o, H b = some o → b ≠ p → H' b = some o) → Q .non H'
theorem scFI : FnScope ["self", "rings"] ["self", "rings"] (defScope sFInit) := ⟨rfl, rfl, rfl, by decide +kernel, rfl, by decide +kernel, by decide +kernel⟩
theorem sqt_ins {K : PySem.W.Frag} {H : Hp} {a D : Addr} {xs : List V} {C dx : Addr} {fs : List (Str × V)} {o : HO} (h : SqT K H a xs) (hD : H D = some (.ins C dx fs)) : SqT K (upd H D o) a xs := by
  rcases h with h | h
  · rcases h with h | ⟨u, h⟩
    · exact .inl (.inl (by rw [upd_ne (ne_of h hD (by intro z; cases z))]; exact h))
    · exact .inl (.inr ⟨u, by rw [upd_ne (ne_of h hD (by intro z; cases z))]; exact h⟩)
  · exact .inr h
theorem pll_ins {K : PySem.W.Frag} {H : Hp} {a D : Addr} {ps : List (List Int)} {C dx : Addr} {fs : List (Str × V)} {o : HO} (h : PlL K H a ps) (hD : H D = some (.ins C dx fs)) : PlL K (upd H D o) a ps := by
  obtain ⟨ks, h1, h2, h3⟩ := h
  exact ⟨ks, by rw [upd_ne (ne_of h1 hD (by intro z; cases z))]; exact h1, h2, ⟨fun p hp => by rw [upd_ne (ne_of (h3.out p hp) hD (by intro z; cases z))]; exact h3.out p hp⟩⟩
theorem ok_fInit (F : FunD K "__init__" "Floor.__init__" (defArgs sFInit) (defBody sFInit) (defScope sFInit) [] [] f fd) (B : Bl mg) (T : FlT K mg C fI fM) (F1 : FnP K "common_order" sOrder f1 fd1) (g1 : mg "common_order" = some (.ref f1)) (G1 : FnOk P w K mg base CX0 1 f1 fd1 ["rings"] (spOrder K))
    (F2 : FnP K "polynomial_of" sPoly f2 fd2) (g2 : mg "polynomial_of" = some (.ref f2)) (G2 : FnOk P w K mg base CX0 2 f2 fd2 ["order"] (spPoly K)) (F3 : FnP K "list_places" sPlaces f3 fd3) (g3 : mg "list_places" = some (.ref f3)) (G3 : FnOk P w K mg base CX0 1 f3 fd3 ["rings"] (spPlaces K)) :
    FnOk P w K mg base CX0 3 f fd ["self", "rings"] (spFInit K C) := by
  have b1 : Binds K fd1 ["rings"] [] := F1.bindsN fun _ _ _ _ _ _ us hl => match us, hl with | [_], _ => rfl
  have b2 : Binds K fd2 ["order"] [] := F2.bindsN fun _ _ _ _ _ _ us hl => match us, hl with | [_], _ => rfl
  have b3 : Binds K fd3 ["rings"] [] := F3.bindsN fun _ _ _ _ _ _ us hl => match us, hl with | [_], _ => rfl
  refine F.ok scFI (fun vs H Q E h => ?_) (fun cdv A outer s H vs Q E hr h => ?_)
  · obtain ⟨p, dx, v, r, rfl, _⟩ := h
    rfl
  · obtain ⟨p, dx, v, r, rfl, hp, ⟨a, rfl, ha⟩, h14, k⟩ := h
    refine ⟨_, PSs.nox (pss_cons (ps_fld (pv 0) (pv 1) rfl)
      (pss_cons (ps_fld (pv 0) (pe_call G1 (hr.mono (by decide)) rfl g1 F1.kp b1 .nil pass0 (pa_cons (pv 1) pa_nil)) rfl)
      (pss_cons (ps_fld (pv 0) (pe_call G2 hr rfl g2 F2.kp b2 .nil pass0 (pa_cons (pe_fld (pv 0) rfl) pa_nil)) rfl)
      (pss_cons (ps_fld (pv 0) (pe_op op_sub (pe_callB call_len_seq (by rfl) (B "len" (by decide +kernel)) PySem.boot_len (pa_cons (pe_fld (pv 0) rfl) pa_nil)) pe_int) rfl)
      (pss_one (ps_fld (pv 0) (pe_call G3 (hr.mono (by decide)) rfl g3 F3.kp b3 .nil pass0 (pa_cons (pv 1) pa_nil)) rfl)))))), ?_⟩
    -- self.rings = rings
    refine ⟨_, rfl, _, rfl, p, C, dx, _, rfl, hp, T.cl, T.aR, (by show 0 < 1000; decide), ?_⟩
    rw [pf1]
    generalize hH1 : upd H p (.ins C dx [(("rings" : Str), V.ref a)]) = H1
    have q1 : H1 p = some (.ins C dx [(("rings" : Str), V.ref a)]) := by rw [← hH1, upd_same]
    have a1 : SqT K H1 a (r.map V.int) := by rw [← hH1]; exact sqt_ins ha hp
    have k1 : ∀ b o, H b = some o → b ≠ p → H1 b = some o := fun b o e n => by rw [← hH1, upd_ne n]; exact e
    -- self.order = common_order(rings)
    refine ⟨_, rfl, _, r, rfl, ⟨a, rfl, a1⟩, h14, fun H2 s2 => ?_⟩
    refine ⟨_, rfl, p, C, dx, _, rfl, s2 _ _ q1, T.cl, T.aO, (by show 1 < 1000; decide), ?_⟩
    rw [pf2]
    generalize hH3 : upd H2 p (.ins C dx [(("rings" : Str), V.ref a), ("order", .int (ordL r))]) = H3
    have q3 : H3 p = some (.ins C dx [(("rings" : Str), V.ref a), ("order", .int (ordL r))]) := by rw [← hH3, upd_same]
    have a3 : SqT K H3 a (r.map V.int) := by rw [← hH3]; exact sqt_ins (s2.tup a1) (s2 _ _ q1)
    have k3 : ∀ b o, H b = some o → b ≠ p → H3 b = some o := fun b o e n => by rw [← hH3, upd_ne n]; exact s2 _ _ (k1 b o e n)
    -- self.polynomial = polynomial_of(self.order)
    refine ⟨_, rfl, p, C, dx, _, _, rfl, q3, T.cl, T.aO, by rw [lk n1, lk0], ordL r, rfl, er_in r h14, fun po H4 s4 npo h4 => ?_⟩
    refine ⟨_, rfl, p, C, dx, _, rfl, s4 _ _ q3, T.cl, T.aP, (by show 2 < 1000; decide), ?_⟩
    rw [pf3]
    generalize hH5 : upd H4 p (.ins C dx [(("rings" : Str), V.ref a), ("order", .int (ordL r)), ("polynomial", .ref po)]) = H5
    have q5 : H5 p = some (.ins C dx [(("rings" : Str), V.ref a), ("order", .int (ordL r)), ("polynomial", .ref po)]) := by rw [← hH5, upd_same]
    have a5 : SqT K H5 a (r.map V.int) := by rw [← hH5]; exact sqt_ins (s4.tup a3) (s4 _ _ q3)
    have p5 : SqT K H5 po ((polyL (ordL r)).map V.int) := by rw [← hH5]; exact sqt_ins (SqT.of h4) (s4 _ _ q3)
    have k5 : ∀ b o, H b = some o → b ≠ p → H5 b = some o := fun b o e n => by rw [← hH5, upd_ne n]; exact s4 _ _ (k3 b o e n)
    -- self.degree = len(self.polynomial) - 1
    refine ⟨_, rfl, p, C, dx, _, _, rfl, q5, T.cl, T.aP, by rw [lk n2, lk n5, lk0], po, _, rfl, .inr p5, _, _, rfl, rfl, ?_⟩
    refine ⟨_, rfl, p, C, dx, _, rfl, q5, T.cl, T.aD, (by show 3 < 1000; decide), ?_⟩
    rw [pf4]
    generalize hd : ((((polyL (ordL r)).map V.int).length : Int) - 1) = d
    generalize hH6 : upd H5 p (.ins C dx [(("rings" : Str), V.ref a), ("order", .int (ordL r)), ("polynomial", .ref po), ("degree", .int d)]) = H6
    have q6 : H6 p = some (.ins C dx [(("rings" : Str), V.ref a), ("order", .int (ordL r)), ("polynomial", .ref po), ("degree", .int d)]) := by rw [← hH6, upd_same]
    have a6 : SqT K H6 a (r.map V.int) := by rw [← hH6]; exact sqt_ins a5 q5
    have p6 : SqT K H6 po ((polyL (ordL r)).map V.int) := by rw [← hH6]; exact sqt_ins p5 q5
    have k6 : ∀ b o, H b = some o → b ≠ p → H6 b = some o := fun b o e n => by rw [← hH6, upd_ne n]; exact k5 b o e n
    -- self.places = list_places(rings)
    refine ⟨_, rfl, _, r, rfl, ⟨a, rfl, a6⟩, h14, fun pl H7 s7 npl h7 => ?_⟩
    refine ⟨_, rfl, p, C, dx, _, rfl, s7 _ _ q6, T.cl, T.aL, (by show 4 < 1000; decide), ?_⟩
    rw [pf5]
    rw [List.length_map] at hd
    subst hd
    refine k _ ⟨dx, a, po, pl, upd_same, sqt_ins (s7.tup a6) (s7 _ _ q6), sqt_ins (s7.tup p6) (s7 _ _ q6), pll_ins h7 (s7 _ _ q6)⟩ fun b o e n => ?_
    rw [upd_ne n]
    exact s7 _ _ (k6 b o e n)
def spFPair (K : PySem.W.Frag) (C : Addr) : Sp := fun vs H Q _ => ∃ (p : Addr) (u z : V) (r x l : List Int), vs = [.ref p, u, z] ∧ FloorAt K C H p r ∧ TupI K H u x ∧ TupI K H z l ∧ r ∈ RR ∧ x ∈ placesL r ∧ l ∈ placesL r ∧ Q (.int (pairL r (ordL r) x l)) H
theorem scFP : FnScope ["self", "place", "label"] ["self", "place", "label"] (defScope sFPair) := ⟨rfl, rfl, rfl, by decide +kernel, rfl, by decide +kernel, by decide +kernel⟩
theorem ok_fPair (F : FunD K "pairing_of" "Floor.pairing_of" (defArgs sFPair) (defBody sFPair) (defScope sFPair) [] [] f fd) (B : Bl mg) (T : FlT K mg C fI fM) (F1 : FnP K "paired" sPaired f1 fd1) (g1 : mg "paired" = some (.ref f1)) : FnOk P w K mg base CX0 2 f fd ["self", "place", "label"] (spFPair K C) := by
  have G1 : FnOk P w K mg base CX0 1 f1 fd1 ["rings", "order", "place", "label"] (spPaired K) := ok_paired F1 B
  have b1 : Binds K fd1 ["rings", "order", "place", "label"] [] := F1.bindsN fun _ _ _ _ _ _ us hl => match us, hl with | [_, _, _, _], _ => rfl
  refine F.ok scFP (fun vs H Q E h => ?_) (fun cdv A outer s H vs Q E hr h => ?_)
  · obtain ⟨p, u, z, r, x, l, rfl, _⟩ := h
    rfl
  · obtain ⟨p, u, z, r, x, l, rfl, ⟨dx, a, po, pl, h1, h2, h3, h4⟩, hx, hl, h14, mx, ml, k⟩ := h
    refine ⟨_, PSs.nox (pss_one (ps_ret (pe_call G1 hr rfl g1 F1.kp b1 .nil pass0 (pa_cons (pe_fld (pv 0) rfl) (pa_cons (pe_fld (pv 0) rfl) (pa_cons (pv 1) (pa_cons (pv 2) pa_nil))))))), ?_⟩
    have eb := er_bd _ (er_in r h14)
    refine ⟨_, rfl, p, C, dx, _, _, rfl, h1, T.cl, T.aR, g_rings, _, rfl, p, C, dx, _, _, rfl, h1, T.cl, T.aO, g_order, _, rfl, _, rfl, ?_⟩
    exact ⟨_, _, _, r, x, l, ordL r, rfl, ⟨a, rfl, h2⟩, hx, hl, h14, rr_whole h14 mx, rr_whole h14 ml, rr_it r h14 x mx, rr_it r h14 l ml, by omega, by omega, k⟩
end
end K45

/-! Numbers: as values; lowered. -/
namespace K45
open PySem PySem.Spec PyProof.Rows L2
def NumAt (K : PySem.W.Frag) (H : Hp) (v : V) (n : Num) : Prop := ∃ p t, v = .ref p ∧ SqT K H p [.ref t, .int n.2] ∧ SqT K H t (n.1.map V.int)
theorem _root_.L2.Same.num {K : PySem.W.Frag} {H H' : Hp} {v : V} {n : Num} (e : Same H H') (h : NumAt K H v n) : NumAt K H' v n := by
  obtain ⟨p, t, rfl, h1, h2⟩ := h
  exact ⟨p, t, rfl, e.tup h1, e.tup h2⟩
def Nums (K : PySem.W.Frag) (H : Hp) (vs : List V) (ns : List Num) : Prop := vs.length = ns.length ∧ ∀ (i : Nat) v n, vs[i]? = some v → ns[i]? = some n → NumAt K H v n
theorem _root_.L2.Same.nums {K : PySem.W.Frag} {H H' : Hp} {vs : List V} {ns : List Num} (e : Same H H') (h : Nums K H vs ns) : Nums K H' vs ns := ⟨h.1, fun i v n e1 e2 => e.num (h.2 i v n e1 e2)⟩
theorem Nums.get {K : PySem.W.Frag} {H : Hp} {vs : List V} {ns : List Num} (h : Nums K H vs ns) {i : Nat} {v : V} (hi : vs[i]? = some v) : ∃ n, ns[i]? = some n ∧ NumAt K H v n := by
  have hl := ltL hi
  rw [h.1] at hl
  exact ⟨_, List.getElem?_eq_getElem hl, h.2 i v _ hi (List.getElem?_eq_getElem hl)⟩
theorem nums_nil {K : PySem.W.Frag} {H : Hp} : Nums K H [] [] := ⟨rfl, fun i v n e _ => by simp at e⟩
theorem Nums.snoc {K : PySem.W.Frag} {H : Hp} {vs : List V} {ns : List Num} {v : V} {n : Num} (h : Nums K H vs ns) (q : NumAt K H v n) : Nums K H (vs ++ [v]) (ns ++ [n]) := by
  refine ⟨by rw [List.length_append, List.length_append, h.1]; rfl, fun i v' n' e1 e2 => ?_⟩
  rcases Nat.lt_or_ge i vs.length with z | z
  · rw [List.getElem?_append_left z] at e1
    rw [List.getElem?_append_left (by rw [← h.1]; exact z)] at e2
    exact h.2 i v' n' e1 e2
  · have e := ltL e1
    rw [List.length_append] at e
    have e0 : i = vs.length := by simp at e; omega
    subst e0
    rw [List.getElem?_concat_length] at e1
    rw [h.1, List.getElem?_concat_length] at e2
    cases e1
    cases e2
    exact q
/-- a row: a tuple of numbers -/
def RowAt (K : PySem.W.Frag) (H : Hp) (v : V) (ns : List Num) : Prop := ∃ p vs, v = .ref p ∧ SqT K H p vs ∧ Nums K H vs ns
theorem _root_.L2.Same.row {K : PySem.W.Frag} {H H' : Hp} {v : V} {ns : List Num} (e : Same H H') (h : RowAt K H v ns) : RowAt K H' v ns := by
  obtain ⟨p, vs, rfl, h1, h2⟩ := h
  exact ⟨p, vs, rfl, e.tup h1, e.nums h2⟩
/-! ### lowered -/
theorem gcdI_bd {a b : Int} (h : 1 ≤ a) : 1 ≤ gcdI a b ∧ gcdI a b ≤ a := by
  unfold gcdI
  have h1 := Nat.gcd_pos_of_pos_left b.natAbs (show 0 < a.natAbs by omega)
  have h2 := Nat.gcd_le_left b.natAbs (show 0 < a.natAbs by omega)
  omega
theorem lowC_bd : ∀ (tops : List Int) (b : Int), 1 ≤ b → 1 ≤ lowC tops b ∧ lowC tops b ≤ b
  | [], b, h => ⟨h, Int.le_refl _⟩
  | t :: ts, b, h => by
    have g := gcdI_bd (b := t) h
    have r := lowC_bd ts (gcdI b t) g.1
    show 1 ≤ lowC ts (gcdI b t) ∧ lowC ts (gcdI b t) ≤ b
    omega
theorem pi_or {X : Cx} {tg e : Expr} {w1 w2 : TI} (h1 : PI X tg e w1) (h2 : PI X tg e w2) : PI X tg e (fun σ H R => w1 σ H R ∨ w2 σ H R) :=
  ⟨fun pins s σ H R I h => h.elim (fun q => h1.run pins s σ H R I q) (fun q => h2.run pins s σ H R I q)⟩
section
variable {P : Program} {w : World} {K : PySem.W.Frag} {mg : Str → Option Value} {base : Heap} {f f1 f2 f3 f4 f5 : Addr} {fd fd1 fd2 fd3 fd4 fd5 : FuncData}
def spLow (K : PySem.W.Frag) : Sp := fun vs H Q _ => ∃ (a : Addr) (tops : List Int) (b : Int), vs = [.ref a, .int b] ∧ (SqL K H a (tops.map V.int) ∨ SqT K H a (tops.map V.int)) ∧ 1 ≤ b ∧ b < 1073741824 ∧ tops.length ≤ 1000 ∧ ∀ v H', Same H H' → NumAt K H' v (lowL tops b) → Q v H'
theorem scLow : FnScope ["tops", "bottom", "common", "top"] ["tops", "bottom"] (defScope sLow) := ⟨rfl, rfl, rfl, by decide +kernel, rfl, by decide +kernel, by decide +kernel⟩
theorem ok_low (F : FnP K "lowered" sLow f fd) (B : Bl mg) (gG : mg "gcd" = some (.builtin "math.gcd")) : FnOk P w K mg base CX0 1 f fd ["tops", "bottom"] (spLow K) := by
  refine F.ok scLow (fun vs H Q E h => ?_) (fun cdv A outer s H vs Q E hr h => ?_)
  · obtain ⟨a, tops, b, rfl, _⟩ := h
    rfl
  · obtain ⟨a, tops, b, rfl, ha, b1, b2, hl, k⟩ := h
    refine ⟨_, PSs.nox (pss_cons (ps_set (i := 2) scLow.nd rfl (Or.inr rfl) (pe_callB call_abs (by rfl) (B "abs" (by decide +kernel)) (by decide +kernel) (pa_cons (pv 1) pa_nil)))
      (pss_cons (ps_for PassesOwn.never rfl (pi_or (pi_list (pv 0)) (pi_tup (pv 0))) (pg_name (i := 3) scLow.nd rfl (Or.inl rfl)) (pss_one (ps_set (i := 2) scLow.nd rfl (Or.inr rfl) (pe_callBfun cr_gcd rfl gG (pa_cons (pv 2) (pa_cons (pv 3) pa_nil))))))
      (pss_cons (ps_if (pt_cmpR op_lt (pv 1) pe_int (nomark _)) (pss_one (ps_set (i := 2) scLow.nd rfl (Or.inr rfl) (pe_un un_neg (pv 2)))) pss_nil)
      (pss_one (ps_ret (pe_tup (pa_cons (pe_callTy call_tuple_of (by rfl) (B "tuple" (by decide +kernel)) (by decide +kernel) (pa_cons
        (pe_lc (own := [("top", 3)]) (g := gName 3) (tt := tYes) (te := tOp rFdv (tVar 3) (tVar 2)) rfl scLow.nd (pi_or (pi_list (pv 0)) (pi_tup (pv 0))) (blkOk_by (own := [("top", 3)]) (N := ["tops", "bottom", "common", "top"]) (sc := defScope sLow) (by decide +kernel))
          (fun _ _ _ _ _ => pg_name (i := 3) scLow.nd rfl (Or.inl rfl)) (fun _ _ _ _ _ => pts_nil) (fun _ _ _ _ _ => pe_op op_fdiv (pv 3) (pv 2))) pa_nil)) (pa_cons (pe_op op_fdiv (pv 1) (pv 2)) pa_nil)))))))), ?_⟩
    refine ⟨_, rfl, b, rfl, ?_⟩
    rw [if_neg (show ¬ b < 0 by omega)]
    rcases ha with ha | ha
    · refine Or.inl ⟨_, rfl, a, rfl, ⟨_, ha⟩, for_list (K := K) (a := a) (xs := tops.map V.int) (fun i σ H2 => ∃ u, σ = [some (.ref a), some (.int b), some (.int (lowC (tops.take i) b)), u] ∧ H2 = H) ⟨none, rfl, rfl⟩ (fun i σ H2 _ ⟨_, _, e⟩ => by rw [e]; exact ha) ?_ ?_⟩
      · rintro i y σ H2 hi ⟨u, rfl, rfl⟩
        obtain ⟨t, rfl, ht⟩ := getI hi
        refine ⟨_, rfl, _, rfl, _, _, rfl, ?_⟩
        refine ⟨some (.int t), ?_, rfl⟩
        have e : lowC (tops.take (i + 1)) b = gcdI (lowC (tops.take i) b) t := by
          rw [takeS ht]
          unfold lowC
          rw [List.foldl_append]
          rfl
        rw [e]
        rfl
      · rintro σ H2 ⟨u, rfl, rfl⟩
        rw [List.length_map, List.take_length]
        have cb := lowC_bd tops b b1
        generalize hC : lowC tops b = C at cb
        refine ⟨_, rfl, _, _, rfl, rfl, _, rfl, ?_⟩
        refine ite2 (fun c => absurd (of_decide_eq_true c) (by omega)) fun _ => ?_
        refine Or.inl ⟨_, rfl, a, rfl, ⟨_, ha⟩, fun D hD => ?_⟩
        refine lc_list (K := K) (a := a) (xs := tops.map V.int) (fun i H3 => Same H2 H3 ∧ H3 D = some (.lst (((tops.take i).map fun t => t / C).map V.int))) ⟨same_upd hD, by rw [upd_same]; rfl⟩ (fun i H3 _ ⟨s3, _⟩ => s3.seq ha) ?_ ?_
        · rintro i y H3 hi ⟨s3, h3⟩
          obtain ⟨t, rfl, ht⟩ := getI hi
          refine ⟨rfl, _, rfl, _, rfl, _, _, rfl, rfl, ⟨by omega, by omega⟩, ?_⟩
          refine ⟨_, h3, sl_lt (by rw [List.length_map, List.length_map, List.length_take]; omega), same_at s3 hD, ?_⟩
          rw [upd_same, takeS ht, List.map_append, List.map_append]
          rfl
        · rintro H3 ⟨s3, h3⟩
          rw [List.length_map, List.take_length] at h3
          refine ⟨D, _, rfl, .inl ⟨SqL.of h3, fun t ht => ?_⟩⟩
          refine ⟨_, rfl, _, rfl, _, _, rfl, rfl, ⟨by omega, by omega⟩, by show 2 ≤ sizeLine; decide, fun p hp => ?_⟩
          have st := same_new (o := .tup ((tops.map fun t => t / C).map V.int)) s3 ht
          refine k _ _ (same_new st hp) ⟨p, t, rfl, ?_, ?_⟩
          · refine SqT.of ?_
            rw [upd_same]
            unfold lowL
            rw [hC]
          · unfold lowL
            rw [hC]
            exact (same_upd hp).tup (SqT.of upd_same)
    · refine Or.inr ⟨_, rfl, a, rfl, ⟨_, ha⟩, for_tup (K := K) (a := a) (xs := tops.map V.int) (fun i σ H2 => ∃ u, σ = [some (.ref a), some (.int b), some (.int (lowC (tops.take i) b)), u] ∧ H2 = H) ⟨none, rfl, rfl⟩ (fun i σ H2 _ ⟨_, _, e⟩ => by rw [e]; exact ha) ?_ ?_⟩
      · rintro i y σ H2 hi ⟨u, rfl, rfl⟩
        obtain ⟨t, rfl, ht⟩ := getI hi
        refine ⟨_, rfl, _, rfl, _, _, rfl, ?_⟩
        refine ⟨some (.int t), ?_, rfl⟩
        have e : lowC (tops.take (i + 1)) b = gcdI (lowC (tops.take i) b) t := by
          rw [takeS ht]
          unfold lowC
          rw [List.foldl_append]
          rfl
        rw [e]
        rfl
      · rintro σ H2 ⟨u, rfl, rfl⟩
        rw [List.length_map, List.take_length]
        have cb := lowC_bd tops b b1
        generalize hC : lowC tops b = C at cb
        refine ⟨_, rfl, _, _, rfl, rfl, _, rfl, ?_⟩
        refine ite2 (fun c => absurd (of_decide_eq_true c) (by omega)) fun _ => ?_
        refine Or.inr ⟨_, rfl, a, rfl, ⟨_, ha⟩, fun D hD => ?_⟩
        refine lc_tup (K := K) (a := a) (xs := tops.map V.int) (fun i H3 => Same H2 H3 ∧ H3 D = some (.lst (((tops.take i).map fun t => t / C).map V.int))) ⟨same_upd hD, by rw [upd_same]; rfl⟩ (fun i H3 _ ⟨s3, _⟩ => s3.tup ha) ?_ ?_
        · rintro i y H3 hi ⟨s3, h3⟩
          obtain ⟨t, rfl, ht⟩ := getI hi
          refine ⟨rfl, _, rfl, _, rfl, _, _, rfl, rfl, ⟨by omega, by omega⟩, ?_⟩
          refine ⟨_, h3, sl_lt (by rw [List.length_map, List.length_map, List.length_take]; omega), same_at s3 hD, ?_⟩
          rw [upd_same, takeS ht, List.map_append, List.map_append]
          rfl
        · rintro H3 ⟨s3, h3⟩
          rw [List.length_map, List.take_length] at h3
          refine ⟨D, _, rfl, .inl ⟨SqL.of h3, fun t ht => ?_⟩⟩
          refine ⟨_, rfl, _, rfl, _, _, rfl, rfl, ⟨by omega, by omega⟩, by show 2 ≤ sizeLine; decide, fun p hp => ?_⟩
          have st := same_new (o := .tup ((tops.map fun t => t / C).map V.int)) s3 ht
          refine k _ _ (same_new st hp) ⟨p, t, rfl, ?_, ?_⟩
          · refine SqT.of ?_
            rw [upd_same]
            unfold lowL
            rw [hC]
          · unfold lowL
            rw [hC]
            exact (same_upd hp).tup (SqT.of upd_same)
end
end K45

namespace K45
open PySem PySem.Spec PyProof.Rows L2
/-- a list of lists of ints -/
def TopsAt (H : Hp) (vs : List V) (tss : List (List Int)) : Prop := vs.length = tss.length ∧ ∀ (i : Nat) v ts, vs[i]? = some v → tss[i]? = some ts → ∃ t, v = .ref t ∧ H t = some (.lst (ts.map V.int))
theorem TopsAt.same {H H' : Hp} {vs : List V} {tss : List (List Int)} (h : TopsAt H vs tss) (s : Same H H') : TopsAt H' vs tss := ⟨h.1, fun i v ts e1 e2 => by
  obtain ⟨t, rfl, q⟩ := h.2 i v ts e1 e2
  exact ⟨t, rfl, s _ _ q⟩⟩
theorem TopsAt.up {H : Hp} {vs : List V} {tss : List (List Int)} {D : Addr} {o : HO} (h : TopsAt H vs tss) (hD : H D = some (.lst vs)) : TopsAt (upd H D o) vs tss := ⟨h.1, fun i v ts e1 e2 => by
  obtain ⟨t, rfl, q⟩ := h.2 i v ts e1 e2
  refine ⟨t, rfl, ?_⟩
  rw [upd_ne fun z => ?_]
  · exact q
  · rw [z, hD] at q
    have e := HO.lst.inj (Option.some.inj q)
    rw [e] at e1
    obtain ⟨c, hc, _⟩ := getI e1
    cases hc⟩
theorem TopsAt.snoc {H : Hp} {vs : List V} {tss : List (List Int)} {t : Addr} {ts : List Int} (h : TopsAt H vs tss) (q : H t = some (.lst (ts.map V.int))) : TopsAt H (vs ++ [.ref t]) (tss ++ [ts]) := by
  refine ⟨by rw [List.length_append, List.length_append, h.1]; rfl, fun i v' n' e1 e2 => ?_⟩
  rcases Nat.lt_or_ge i vs.length with z | z
  · rw [List.getElem?_append_left z] at e1
    rw [List.getElem?_append_left (by rw [← h.1]; exact z)] at e2
    exact h.2 i v' n' e1 e2
  · have e := ltL e1
    rw [List.length_append] at e
    have e0 : i = vs.length := by simp at e; omega
    subst e0
    rw [List.getElem?_concat_length] at e1
    rw [h.1, List.getElem?_concat_length] at e2
    cases e1
    cases e2
    exact ⟨t, rfl, q⟩
section
variable {P : Program} {w : World} {K : PySem.W.Frag} {mg : Str → Option Value} {base : Heap} {f f1 f2 f3 f4 f5 : Addr} {fd fd1 fd2 fd3 fd4 fd5 : FuncData}
def spLev (K : PySem.W.Frag) : Sp := fun vs H Q _ => ∃ (v : V) (ns : List Num), vs = [v] ∧ RowAt K H v ns ∧ ns.length ≤ 1000 ∧ (∀ n ∈ ns, 1 ≤ n.2 ∧ n.2 ≤ 1000 ∧ n.1.length ≤ 1000) ∧ (∀ i ≤ ns.length, 1 ≤ levB (ns.take i) ∧ levB (ns.take i) ≤ 1000) ∧ ∀ p t ts H', Same H H' → SqT K H' p [.ref t, .int (levB ns)] → H t = none → H' t = some (.lst ts) → TopsAt H' ts (levT ns) → Q (.ref p) H'
abbrev levN : List Str := ["numbers", "bottom", "_", "under", "tops", "top"]
def levSc : Scope := { kind := .function, names := [(".0", .local), ("tops", .local), ("under", .cell), ("bottom", .free)], isGenerator := false, isCoroutine := false }
theorem scLev : FnScope levN ["numbers"] (defScope sLev) := ⟨rfl, rfl, rfl, by decide +kernel, rfl, by decide +kernel, by decide +kernel⟩
theorem ok_lev (F : FnP K "levelled" sLev f fd) (B : Bl mg) (gL : mg "lcm" = some (.builtin "math.lcm")) : FnOk P w K mg base CX0 1 f fd ["numbers"] (spLev K) := by
  refine F.ok scLev (fun vs H Q E h => ?_) (fun cdv A outer s H vs Q E hr h => ?_)
  · obtain ⟨v, ns, rfl, _⟩ := h
    rfl
  · obtain ⟨v, ns, rfl, hR, hl, hb, hB, k⟩ := h
    refine ⟨_, PSs.nox (pss_cons (ps_set (i := 1) scLev.nd rfl (Or.inr rfl) pe_int)
      (pss_cons (ps_for PassesOwn.never rfl (pi_tup (pv 0)) (pg_tup rfl (pgs_cons (pg_name (i := 2) scLev.nd rfl (Or.inl rfl)) (pgs_cons (pg_name (i := 3) scLev.nd rfl (Or.inl rfl)) pgs_nil))) (pss_one (ps_set (i := 1) scLev.nd rfl (Or.inr rfl) (pe_callBfun cr_lcm rfl gL (pa_cons (pv 1) (pa_cons (pv 3) pa_nil))))))
      (pss_one (ps_ret (pe_tup (pa_cons
        (pe_lc (own := [("tops", 4), ("under", 3)]) (g := gTup K 2 (gCons (gName 4) (gCons (gName 3) gNil))) (tt := tYes)
          (te := tLc (iTup K (tVar 4)) (gName 5) tYes (tOp rMul (tVar 5) (tOp rFdv (tVar 1) (tVar 3))) [5]) rfl scLev.nd (pi_tup (pv 0)) (blkOk_by (own := [("tops", 4), ("under", 3)]) (N := levN) (sc := defScope sLev) (by decide +kernel))
          (fun _ _ _ _ _ => pg_tup rfl (pgs_cons (pg_name (i := 4) scLev.nd rfl (Or.inl rfl)) (pgs_cons (pg_name (i := 3) scLev.nd rfl (Or.inr rfl)) pgs_nil))) (fun _ _ _ _ _ => pts_nil)
          (fun _ _ _ _ _ => pe_lc (own := [("top", 5)]) (g := gName 5) (tt := tYes) (te := tOp rMul (tVar 5) (tOp rFdv (tVar 1) (tVar 3))) rfl scLev.nd (pi_tup (pv 4)) (blkOk_by (own := [("top", 5)]) (N := levN) (sc := relS levSc (defScope sLev)) (by decide +kernel))
            (fun _ _ _ _ _ => pg_name (i := 5) scLev.nd rfl (Or.inl rfl)) (fun _ _ _ _ _ => pts_nil) (fun _ _ _ _ _ => pe_op op_mul (pv 5) (pe_op op_fdiv (pv 1) (pv 3))))) (pa_cons (pv 1) pa_nil))))))), ?_⟩
    obtain ⟨a, vs, rfl, ha, hN⟩ := hR
    have hvl := hN.1
    refine ⟨_, rfl, a, rfl, ⟨_, ha⟩, for_tup (K := K) (a := a) (xs := vs) (fun i σ H2 => ∃ u2 u3, σ = [some (.ref a), some (.int (levB (ns.take i))), u2, u3, none, none] ∧ H2 = H) ⟨none, none, rfl, rfl⟩ (fun i σ H2 _ ⟨_, _, _, e⟩ => by rw [e]; exact ha) ?_ ?_⟩
    · rintro i y σ H2 hi ⟨u2, u3, rfl, rfl⟩
      obtain ⟨n, hn, p, t, rfl, hp, ht⟩ := hN.get hi
      have b0 := hB i (by have := ltL hn; omega)
      have b1 := hB (i + 1) (by have := ltL hn; omega)
      have bn := hb n (List.mem_of_getElem? hn)
      have e : levB (ns.take (i + 1)) = lcmI (levB (ns.take i)) n.2 := by
        rw [takeS hn]
        unfold levB
        rw [List.foldl_append]
        rfl
      refine ⟨p, _, rfl, hp, rfl, _, _, rfl, _, _, rfl, rfl, ?_⟩
      refine ⟨_, rfl, _, rfl, _, _, rfl, by omega, by omega, by rw [← e]; omega, ?_⟩
      refine ⟨some (.ref t), some (.int n.2), ?_, rfl⟩
      rw [e]
      rfl
    · rintro σ H2 ⟨u2, u3, rfl, rfl⟩
      rw [hvl, List.take_length]
      have bB := hB ns.length (Nat.le_refl _)
      rw [List.take_length] at bB
      generalize hBB : levB ns = BB at bB
      refine ⟨_, rfl, a, rfl, ⟨_, ha⟩, fun D hD => ?_⟩
      refine lc_tup (K := K) (a := a) (xs := vs) (fun i H3 => Same H2 H3 ∧ ∃ ts, H3 D = some (.lst ts) ∧ TopsAt H3 ts ((ns.take i).map fun n => n.1.map fun t => t * (BB / n.2))) ⟨same_upd hD, [], upd_same, rfl, fun i v ts e _ => by simp at e⟩ (fun i H3 _ ⟨s3, _⟩ => s3.tup ha) ?_ ?_
      · rintro i y H3 hi ⟨s3, ts, h3, tt⟩
        obtain ⟨n, hn, p, t, rfl, hp, ht⟩ := hN.get hi
        have bn := hb n (List.mem_of_getElem? hn)
        refine ⟨p, _, rfl, s3.tup hp, rfl, _, _, rfl, _, _, rfl, rfl, rfl, _, rfl, t, rfl, ⟨_, s3.tup ht⟩, fun D2 hD2 => ?_⟩
        have nD2 : D ≠ D2 := ne_of_none h3 hD2
        refine lc_tup (K := K) (a := t) (xs := n.1.map V.int) (fun j H4 => Same H3 H4 ∧ H4 D2 = some (.lst (((n.1.take j).map fun t => t * (BB / n.2)).map V.int))) ⟨same_upd hD2, by rw [upd_same]; rfl⟩ (fun j H4 _ ⟨s4, _⟩ => s4.tup (s3.tup ht)) ?_ ?_
        · rintro j y2 H4 hj ⟨s4, h4⟩
          obtain ⟨c, rfl, hc⟩ := getI hj
          have q1 : 0 ≤ BB / n.2 := Int.ediv_nonneg (by omega) (by omega)
          have q2 : BB / n.2 ≤ BB := Int.ediv_le_self _ (by omega)
          refine ⟨rfl, _, rfl, _, rfl, _, rfl, _, _, rfl, rfl, ⟨by omega, by omega⟩, _, _, rfl, rfl, Or.inr ⟨by omega, by omega⟩, ?_⟩
          refine ⟨_, h4, sl_lt (by rw [List.length_map, List.length_map, List.length_take]; omega), same_at s4 hD2, ?_⟩
          rw [upd_same, takeS hc, List.map_append, List.map_append]
          rfl
        · rintro H4 ⟨s4, h4⟩
          rw [List.length_map, List.take_length] at h4
          refine ⟨ts, s4 _ _ h3, ?_, same_at (s3.trans s4) hD, _, upd_same, ?_⟩
          · have := tt.1
            rw [List.length_map, List.length_take] at this
            exact sl_lt (by omega)
          · rw [takeS hn, List.map_append]
            have h5 : upd H4 D (.lst (ts ++ [.ref D2])) D2 = some (.lst ((n.1.map fun t => t * (BB / n.2)).map V.int)) := by rw [upd_ne nD2.symm]; exact h4
            exact ((tt.same s4).up (s4 _ _ h3)).snoc h5
      · rintro H3 ⟨s3, ts, h3, tt⟩
        rw [hvl, List.take_length] at tt
        refine ⟨_, rfl, by show 2 ≤ sizeLine; decide, fun p hp => ?_⟩
        have sp : Same H3 (upd H3 p (.tup [.ref D, .int BB])) := same_upd hp
        refine k p D ts _ (s3.trans sp) ?_ hD (sp _ _ h3) ?_
        · rw [hBB]
          exact SqT.of upd_same
        · unfold levT
          rw [hBB]
          exact tt.same sp
end
end K45

/-! Sums of turns. -/
namespace K45
open PySem PySem.Spec PyProof.Rows L2
theorem addN_len (e p : Int) (tops tot : List Int) : ∀ k, (addN e p tops tot k).length = tot.length
  | 0 => rfl
  | k + 1 => by
    show (List.set _ _ _).length = tot.length
    rw [List.length_set, addN_len e p tops tot k]
theorem tsGo_len (r : List Int) (e sg : Int) (label : List Int) (items : List (List Int)) : ∀ i, (tsGo r e sg label items i).length = e.toNat
  | 0 => by simp [tsGo]
  | i + 1 => by
    show (addN _ _ _ _ _).length = _
    rw [addN_len, tsGo_len r e sg label items i]
theorem pair_bd (r : List Int) {e : Int} (he : 0 < e) (x q : List Int) : 0 ≤ pairL r e x q ∧ pairL r e x q < e := ⟨Int.emod_nonneg _ (by omega), Int.emod_lt_of_pos _ he⟩
theorem er_poly : ∀ e ∈ ER, 2 ≤ (polyL e).length ∧ (polyL e).length ≤ e.toNat ∧ ∀ d ∈ polyL e, -1000 ≤ d ∧ d ≤ 1000 := by decide +kernel
theorem rr_pl0 : ∀ r ∈ RR, (placesL r).length ≤ 16 := by decide +kernel
section
variable {P : Program} {w : World} {K : PySem.W.Frag} {mg : Str → Option Value} {base : Heap} {f f1 f2 f3 f4 f5 C fI fM : Addr} {fd fd1 fd2 fd3 fd4 fd5 fdM : FuncData}
def spTS (K : PySem.W.Frag) (C : Addr) : Sp := fun vs H Q _ => ∃ (p ti tp : Addr) (u : V) (its : List V) (r x : List Int) (tss : List (List Int)) (sg : Int), vs = [.ref p, .ref ti, .ref tp, u, .int sg] ∧ -1 ≤ sg ∧ sg ≤ 1 ∧ FloorAt K C H p r ∧ SqL K H ti its ∧ TopsAt H its tss ∧ PlL K H tp (placesL r) ∧ TupI K H u x ∧ x ∈ placesL r ∧ r ∈ RR ∧ tss.length = (placesL r).length ∧ (∀ ts ∈ tss, ts.length ≤ 1000) ∧
  ∀ t H', Same H H' → H t = none → H' t = some (.tup ((tsL r sg x tss).map V.int)) → Q (.ref t) H'
abbrev tsN : List Str := ["floor", "items", "places", "label", "sign", "total", "tops", "place", "power", "k", "top"]
theorem scTS : FnScope tsN ["floor", "items", "places", "label", "sign"] (defScope sTSum) := ⟨rfl, rfl, rfl, by decide +kernel, rfl, by decide +kernel, by decide +kernel⟩
theorem ok_tsum (F : FnP K "turned_sum" sTSum f fd) (B : Bl mg) (T : FlT K mg C fI fM) (FM : FunD K "pairing_of" "Floor.pairing_of" (defArgs sFPair) (defBody sFPair) (defScope sFPair) [] [] fM fdM) (GM : FnOk P w K mg base CX0 2 fM fdM ["self", "place", "label"] (spFPair K C))
    (F1 : FnP K "reduced" sRed f1 fd1) (g1 : mg "reduced" = some (.ref f1)) (G1 : FnOk P w K mg base CX0 2 f1 fd1 ["items", "polynomial"] (spRed K)) : FnOk P w K mg base CX0 3 f fd ["floor", "items", "places", "label", "sign"] (spTS K C) := by
  have bM : Binds K fdM ["self", "place", "label"] [] := FM.bindsN fun _ _ _ _ _ _ us hl => match us, hl with | [_, _, _], _ => rfl
  have b1 : Binds K fd1 ["items", "polynomial"] [] := F1.bindsN fun _ _ _ _ _ _ us hl => match us, hl with | [_, _], _ => rfl
  refine F.ok scTS (fun vs H Q E h => ?_) (fun cdv A outer s H vs Q E hr h => ?_)
  · obtain ⟨p, ti, tp, u, its, r, x, tss, sg, rfl, _⟩ := h
    rfl
  · obtain ⟨p, ti, tp, u, its, r, x, tss, sg, rfl, sg1, sg2, hF, hti, tt, hpl, ⟨c, rfl, hc⟩, hx, h14, hlen, few, k⟩ := h
    refine ⟨_, PSs.nox (pss_cons (ps_set (i := 5) scTS.nd rfl (Or.inl rfl) (pe_op op_rep (pe_lst (pa_cons pe_int pa_nil)) (pe_fld (pv 0) rfl)))
      (pss_cons (ps_for PassesOwn.never rfl (RZ.pi_zipA rfl (B "zip" (by decide +kernel)) (pa_cons (pv 1) (pa_cons (pv 2) pa_nil))) (pg_tup rfl (pgs_cons (pg_name (i := 6) scTS.nd rfl (Or.inl rfl)) (pgs_cons (pg_name (i := 7) scTS.nd rfl (Or.inl rfl)) pgs_nil)))
        (pss_cons (ps_set (i := 8) scTS.nd rfl (Or.inl rfl) (pe_op op_mul (pv 4) (pe_meth (pv 0) T.cl T.mt GM hr bM .nil pass0 (pa_cons (pv 7) (pa_cons (pv 3) pa_nil)))))
        (pss_one (ps_for PassesOwn.never rfl (pi_enum (by rfl) (B "enumerate" (by decide +kernel)) (pa_cons (pv 6) pa_nil)) (pg_tup rfl (pgs_cons (pg_name (i := 9) scTS.nd rfl (Or.inl rfl)) (pgs_cons (pg_name (i := 10) scTS.nd rfl (Or.inl rfl)) pgs_nil)))
          (pss_one (ps_augS (pv 5) (pe_op op_mod (pe_op op_add (pv 8) (pv 9)) (pe_fld (pv 0) rfl)) get_list (pv 10) ip_add set_list))))))
      (pss_one (ps_ret (pe_call G1 hr rfl g1 F1.kp b1 .nil pass0 (pa_cons (pv 5) (pa_cons (pe_fld (pv 0) rfl) pa_nil))))))), ?_⟩
    have eb := er_bd _ (er_in r h14)
    have ep := er_poly _ (er_in r h14)
    obtain ⟨dx, ar, po, pl, h1, h2, h3, h4⟩ := id hF
    obtain ⟨kp, hk1, hk2, hk3⟩ := hpl
    refine ⟨by show 1 ≤ sizeLine; decide, fun z hz => ?_⟩
    have sz : Same H (upd H z (.lst [.int 0])) := same_upd hz
    refine ⟨_, rfl, p, C, dx, _, _, rfl, sz _ _ h1, T.cl, T.aO, g_order, z, _, _, rfl, rfl, upd_same, by omega, by omega, sl_1000 (by simp; omega), fun D hD => ?_⟩
    rw [rep_flat]
    have nD : H D = none := sz.free hD
    have s1 : Same H (upd (upd H z (.lst [.int 0])) D (.lst (List.replicate (ordL r).toNat (V.int 0)))) := same_new sz hD
    have hkl : (rf kp).length = (placesL r).length := by rw [← hk2, List.length_map, List.length_map]
    have hil : its.length = (rf kp).length := by rw [tt.1, hlen, hkl]
    refine ⟨_, rfl, _, rfl, ti, tp, its, rf kp, rfl, .inl ⟨s1.seq hti, SqL.of (s1 _ _ hk1), ?_⟩⟩
    refine RZ.for_zipL (K := K) (a := ti) (b := tp) (xs := its) (ys := rf kp) hil (fun i σ H2 => ∃ y6 y7 y8 y9 y10, σ = [some (.ref p), some (.ref ti), some (.ref tp), some (.ref c), some (.int sg), some (.ref D), y6, y7, y8, y9, y10] ∧ Same H H2 ∧ H2 D = some (.lst ((tsGo r (ordL r) sg x tss i).map V.int))) ⟨none, none, none, none, none, rfl, s1, ?_⟩ (fun i σ H2 ⟨_, _, _, _, _, _, s2, _⟩ => ⟨s2.seq hti, SqL.of (s2 _ _ hk1)⟩) ?_ ?_
    · rw [upd_same]
      simp [tsGo]
    · rintro i y1 y2 Tt σ H2 e1 e2 ⟨y6, y7, y8, y9, y10, rfl, s2, h2'⟩ hT
      have il : i < tss.length := by rw [← tt.1]; exact ltL e1
      have ets := List.getElem?_eq_getElem il
      generalize tss[i] = ts at ets
      obtain ⟨tA, rfl, htA⟩ := tt.2 i y1 ts e1 ets
      obtain ⟨q, rfl, hq⟩ := getR e2
      have hqm := List.mem_of_getElem? hq
      have hq2 : (placesL r)[i]? = some q.2 := by rw [← hk2, List.getElem?_map, hq]; rfl
      have hqp : q.2 ∈ placesL r := List.mem_of_getElem? hq2
      have htm : ts ∈ tss := List.mem_of_getElem? ets
      have bd := pair_bd r (e := ordL r) (by omega) q.2 x
      have s3 : Same H (upd H2 Tt (.tup [.ref tA, .ref q.1])) := same_new s2 hT
      have h3' : upd H2 Tt (.tup [.ref tA, .ref q.1]) D = some (.lst ((tsGo r (ordL r) sg x tss i).map V.int)) := by rw [upd_ne (ne_of_none h2' hT)]; exact h2'
      refine ⟨Tt, _, rfl, SqT.of upd_same, rfl, _, _, rfl, _, _, rfl, rfl, ?_⟩
      refine ⟨_, rfl, _, rfl, p, dx, _, rfl, s3 _ _ h1, g_no, _, rfl, _, rfl, p, _, _, r, q.2, x, rfl, s3.floor hF, ⟨q.1, rfl, s3.tup (hk3 q hqm)⟩, ⟨c, rfl, s3.tup hc⟩, h14, hqp, hx, _, _, rfl, rfl, Or.inl ⟨by omega, by omega⟩, ?_⟩
      generalize hH3 : upd H2 Tt (.tup [.ref tA, .ref q.1]) = H3 at s3 h3'
      refine ⟨_, rfl, tA, ts.map V.int, rfl, SqL.of (s3 _ _ htA), ?_⟩
      generalize hPP : sg * pairL r (ordL r) q.2 x = PP
      have gl := tsGo_len r (ordL r) sg x tss i
      refine for_it (walk_enum (K := K) (a := tA) (xs := ts.map V.int)) (fun j σ H4 => ∃ y9 y10, σ = [some (.ref p), some (.ref ti), some (.ref tp), some (.ref c), some (.int sg), some (.ref D), some (.ref tA), some (.ref q.1), some (.int PP), y9, y10] ∧ Same H H4 ∧ H4 D = some (.lst ((addN (ordL r) PP ts (tsGo r (ordL r) sg x tss i) j).map V.int))) ⟨y9, y10, by rw [← hPP]; rfl, s3, h3'⟩ (fun j σ H4 _ ⟨_, _, _, s4, _⟩ => SqL.of (s4 _ _ htA)) ?_ ?_
      · rintro j v σ H4 H5 hj ⟨y9', y10', rfl, s4, h4'⟩ ⟨T5, c5, y5, rfl, hT5, rfl, ec, ey⟩
        obtain ⟨tv, rfl, htv⟩ := getI ey
        obtain rfl := Option.some.inj ec
        have s5 : Same H (upd H4 T5 (.tup [.int (j : Int), .int tv])) := same_new s4 hT5
        have h5 : upd H4 T5 (.tup [.int (j : Int), .int tv]) D = some (.lst ((addN (ordL r) PP ts (tsGo r (ordL r) sg x tss i) j).map V.int)) := by rw [upd_ne (ne_of_none h4' hT5)]; exact h4'
        have al := addN_len (ordL r) PP ts (tsGo r (ordL r) sg x tss i) j
        have m0 := Int.emod_nonneg (PP + (j : Int)) (show ordL r ≠ 0 by omega)
        have m1 := Int.emod_lt_of_pos (PP + (j : Int)) (show 0 < ordL r by omega)
        obtain ⟨n, hn⟩ := Int.eq_ofNat_of_zero_le m0
        refine ⟨T5, _, rfl, SqT.of upd_same, rfl, _, _, rfl, _, _, rfl, rfl, ?_⟩
        refine ⟨_, rfl, _, rfl, _, rfl, _, _, rfl, rfl, _, rfl, p, C, dx, _, _, rfl, s5 _ _ h1, T.cl, T.aO, g_order, _, _, rfl, rfl, by omega, ?_⟩
        refine ⟨D, _, n, _, rfl, congrArg V.int hn, SqL.of h5, getD_of (by rw [al]; omega), _, rfl, _, _, rfl, rfl, D, _, _, n, rfl, rfl, h5, ?_, some (.int (j : Int)), some (.int tv), rfl, same_at s5 nD, ?_⟩
        · rw [hn, List.length_map, al]
          exact ixN_nat (by omega)
        · rw [upd_same]
          show _ = some (HO.lst ((stepT (ordL r) (addN (ordL r) PP ts (tsGo r (ordL r) sg x tss i) j) (PP + (j : Int)) (ts.getD j 0)).map V.int))
          have e5 : ts.getD j 0 = tv := by rw [List.getD_eq_getElem?_getD, htv]; rfl
          unfold stepT
          rw [e5, hn, Int.toNat_natCast, List.map_set]
      · rintro σ H4 ⟨y9', y10', rfl, s4, h4'⟩
        refine ⟨_, _, _, _, _, rfl, s4, ?_⟩
        rw [h4', List.length_map]
        have e3 : (placesL r).getD i [] = q.2 := by rw [List.getD_eq_getElem?_getD, hq2]; rfl
        have e4 : tss.getD i [] = ts := by rw [List.getD_eq_getElem?_getD, ets]; rfl
        show _ = some (HO.lst ((addN (ordL r) (sg * pairL r (ordL r) ((placesL r).getD i []) x) (tss.getD i []) (tsGo r (ordL r) sg x tss i) (tss.getD i []).length).map V.int))
        rw [e3, e4, hPP]
    · rintro σ H2 ⟨y6, y7, y8, y9, y10, rfl, s2, h2'⟩
      have ts := tsGo_len r (ordL r) sg x tss its.length
      have etl : its.length = tss.length := tt.1
      refine ⟨_, rfl, _, rfl, p, C, dx, _, _, rfl, s2 _ _ h1, T.cl, T.aP, g_poly, D, po, _, _, rfl, .inl (SqL.of h2'), s2.tup h3, ep.1, by omega, by omega, ep.2.2, fun t H3 s3 nt h4 => ?_⟩
      refine k t H3 (s2.trans s3) (s2.free nt) ?_
      rw [h4, etl]
      rfl
end
end K45

namespace K45
open PySem PySem.Spec PyProof.Rows L2
/-- numbers of a row whose least common bottom stays small -/
theorem tsL_len {r : List Int} (h : r ∈ RR) (sg : Int) (x : List Int) (tss : List (List Int)) : (tsL r sg x tss).length ≤ 1000 := by
  have ep := er_poly _ (er_in r h)
  have eb := er_bd _ (er_in r h)
  unfold tsL redL
  have := divL_len (xs := tsGo r (ordL r) sg x tss tss.length) (dv := polyL (ordL r)) (by omega) (by rw [tsGo_len]; exact ep.2.1)
  rw [List.length_append, List.length_replicate]
  omega
section
variable {P : Program} {w : World} {K : PySem.W.Frag} {mg : Str → Option Value} {base : Heap} {f f1 f2 f3 f4 f5 C fI fM : Addr} {fd fd1 fd2 fd3 fd4 fd5 fdM : FuncData}
def spVO (K : PySem.W.Frag) (C : Addr) : Sp := fun vs H Q _ => ∃ (p : Addr) (v : V) (r : List Int) (ns : List Num), vs = [.ref p, v] ∧ FloorAt K C H p r ∧ RowAt K H v ns ∧ r ∈ RR ∧ RowOk r ns ∧ ∀ v' H', Same H H' → RowAt K H' v' (voL r ns) → Q v' H'
abbrev voN : List Str := ["floor", "row", "items", "bottom", "sums", "label", "tops"]
theorem scVO : FnScope voN ["floor", "row"] (defScope sVOf) := ⟨rfl, rfl, rfl, by decide +kernel, rfl, by decide +kernel, by decide +kernel⟩
theorem ok_vof (F : FnP K "voices_of" sVOf f fd) (B : Bl mg) (T : FlT K mg C fI fM)
    (F1 : FnP K "levelled" sLev f1 fd1) (g1 : mg "levelled" = some (.ref f1)) (G1 : FnOk P w K mg base CX0 1 f1 fd1 ["numbers"] (spLev K))
    (F2 : FnP K "turned_sum" sTSum f2 fd2) (g2 : mg "turned_sum" = some (.ref f2)) (G2 : FnOk P w K mg base CX0 3 f2 fd2 ["floor", "items", "places", "label", "sign"] (spTS K C))
    (F3 : FnP K "lowered" sLow f3 fd3) (g3 : mg "lowered" = some (.ref f3)) (G3 : FnOk P w K mg base CX0 1 f3 fd3 ["tops", "bottom"] (spLow K)) :
    FnOk P w K mg base CX0 4 f fd ["floor", "row"] (spVO K C) := by
  have b1 : Binds K fd1 ["numbers"] [] := F1.bindsN fun _ _ _ _ _ _ us hl => match us, hl with | [_], _ => rfl
  have b2 : Binds K fd2 ["floor", "items", "places", "label", "sign"] [] := F2.bindsN fun _ _ _ _ _ _ us hl => match us, hl with | [_, _, _, _, _], _ => rfl
  have b3 : Binds K fd3 ["tops", "bottom"] [] := F3.bindsN fun _ _ _ _ _ _ us hl => match us, hl with | [_, _], _ => rfl
  refine F.ok scVO (fun vs H Q E h => ?_) (fun cdv A outer s H vs Q E hr h => ?_)
  · obtain ⟨p, v, r, ns, rfl, _⟩ := h
    rfl
  · obtain ⟨p, v, r, ns, rfl, hF, hR, h14, ro, k⟩ := h
    refine ⟨_, PSs.nox (pss_cons (ps_asg (pe_call G1 (hr.mono (by decide)) rfl g1 F1.kp b1 .nil pass0 (pa_cons (pv 1) pa_nil)) (pg_tup rfl (pgs_cons (pg_name (i := 2) scVO.nd rfl (Or.inr rfl)) (pgs_cons (pg_name (i := 3) scVO.nd rfl (Or.inr rfl)) pgs_nil))))
      (pss_cons (ps_setLc (i := 4) (own := [("label", 5)]) (g := gName 5) (tt := tYes) (te := tCall (spTS K C) [] E0 (tCons (tVar 0) (tCons (tVar 2) (tCons (tFld K (tVar 0) "places") (tCons (tVar 5) (tCons (tC (.int 1)) tNil)))))) rfl scVO.nd rfl rfl (sw_true rfl rfl rfl (by decide +kernel)) (pi_list (pe_fld (pv 0) rfl)) (blkOk_by (own := [("label", 5)]) (N := voN) (sc := defScope sVOf) (by decide +kernel))
          (fun _ _ _ _ _ => pg_name (i := 5) scVO.nd rfl (Or.inl rfl)) (fun _ _ _ _ _ => pts_nil)
          (fun _ _ _ _ _ => pe_call G2 hr rfl g2 F2.kp b2 .nil pass0 (pa_cons (pv 0) (pa_cons (pv 2) (pa_cons (pe_fld (pv 0) rfl) (pa_cons (pv 5) (pa_cons pe_int pa_nil)))))))
      (pss_one (ps_ret (pe_callTy call_tuple_of (by rfl) (B "tuple" (by decide +kernel)) (by decide +kernel) (pa_cons
        (pe_lc (own := [("tops", 6)]) (g := gName 6) (tt := tYes) (te := tCall (spLow K) [] E0 (tCons (tVar 6) (tCons (tVar 3) tNil))) rfl scVO.nd (pi_list (pv 4)) (blkOk_by (own := [("tops", 6)]) (N := voN) (sc := defScope sVOf) (by decide +kernel))
          (fun _ _ _ _ _ => pg_name (i := 6) scVO.nd rfl (Or.inl rfl)) (fun _ _ _ _ _ => pts_nil)
          (fun _ _ _ _ _ => pe_call G3 (hr.mono (by decide)) rfl g3 F3.kp b3 .nil pass0 (pa_cons (pv 6) (pa_cons (pv 3) pa_nil)))) pa_nil)))))), ?_⟩
    obtain ⟨dx, ar, po, pl, h1, h2, h3, h4⟩ := id hF
    obtain ⟨kp, hk1, hk2, hk3⟩ := id h4
    have eb := er_bd _ (er_in r h14)
    have hr16 := rr_pl0 r h14
    have bB := ro.lev ns.length (Nat.le_refl _)
    rw [List.take_length] at bB
    have hns := ro.len
    refine ⟨_, rfl, v, ns, rfl, hR, by omega, ro.item, ro.lev, fun pt t ts H1 s1 hpt nt ht tt => ?_⟩
    refine ⟨pt, _, rfl, hpt, rfl, _, _, rfl, _, _, rfl, rfl, ?_⟩
    have s1f := s1 _ _ h1
    refine ⟨_, rfl, p, C, dx, _, _, rfl, s1f, T.cl, T.aL, g_places, pl, rfl, ⟨_, SqL.of (s1 _ _ hk1)⟩, fun D hD => ?_⟩
    have hkl : (rf kp).length = (placesL r).length := by rw [← hk2, List.length_map, List.length_map]
    have sD : Same H1 (upd H1 D (.lst [])) := same_upd hD
    have few : ∀ ts ∈ levT ns, ts.length ≤ 1000 := fun ts hts => by
      unfold levT at hts
      obtain ⟨n, hn, rfl⟩ := List.mem_map.mp hts
      rw [List.length_map]
      exact (ro.item n hn).2.2
    have lvl : (levT ns).length = (placesL r).length := by
      unfold levT
      rw [List.length_map, ro.len]
    refine lc_list (K := K) (a := pl) (xs := rf kp) (fun i H2 => Same H1 H2 ∧ ∃ ks, H2 D = some (.lst (rf ks)) ∧ TL K H2 ks ∧ ks.map (·.2) = ((placesL r).take i).map fun l => tsL r 1 l (levT ns)) ⟨sD, [], upd_same, tl_nil, rfl⟩ (fun i H2 _ ⟨s2, _⟩ => SqL.of (s2 _ _ (s1 _ _ hk1))) ?_ ?_
    · rintro i y H2 hi ⟨s2, ks, hD2, tk, ek⟩
      obtain ⟨q, rfl, hq⟩ := getR hi
      have hqm := List.mem_of_getElem? hq
      have hq2 : (placesL r)[i]? = some q.2 := by rw [← hk2, List.getElem?_map, hq]; rfl
      have hqp : q.2 ∈ placesL r := List.mem_of_getElem? hq2
      have s12 := s1.trans s2
      refine ⟨rfl, _, rfl, _, rfl, _, rfl, p, C, dx, _, _, rfl, s12 _ _ h1, T.cl, T.aL, g_places, _, rfl, p, t, pl, .ref q.1, ts, r, q.2, levT ns, 1, rfl, by decide, by decide, s12.floor hF, SqL.of (s2 _ _ ht), tt.same s2, s12.pll h4, ⟨q.1, rfl, s12.tup (hk3 q hqm)⟩, hqp, h14, lvl, few, fun t2 H3 s3 nt2 ht2 => ?_⟩
      have kl : ks.length = ((placesL r).take i).length := by
        have := congrArg List.length ek
        rw [List.length_map, List.length_map] at this
        exact this
      refine ⟨_, s3 _ _ hD2, sl_lt (by rw [List.length_map, kl, List.length_take]; omega), same_at (s2.trans s3) hD, ks ++ [(t2, tsL r 1 q.2 (levT ns))], ?_, ?_, ?_⟩
      · rw [upd_same, rf_snoc]
      · exact tl_at (tl_snoc (s3.tl tk) (SqT.of ht2)) (s3 _ _ hD2)
      · rw [List.map_append, ek, takeS hq2, List.map_append]
        rfl
    · rintro H2 ⟨s2, ks, hD2, tk, ek⟩
      rw [hkl, List.take_length] at ek
      have s12 := s1.trans s2
      refine ⟨_, rfl, D, rfl, ⟨_, SqL.of hD2⟩, fun D3 hD3 => ?_⟩
      have kl : ks.length = (placesL r).length := by
        have := congrArg List.length ek
        rw [List.length_map, List.length_map] at this
        exact this
      refine lc_list (K := K) (a := D) (xs := rf ks) (fun i H3 => Same H2 H3 ∧ ∃ us, H3 D3 = some (.lst us) ∧ Nums K H3 us ((voL r ns).take i)) ⟨same_upd hD3, [], upd_same, by rw [List.take_zero]; exact nums_nil⟩ (fun i H3 _ ⟨s3, _⟩ => SqL.of (s3 _ _ hD2)) ?_ ?_
      · rintro i y H3 hi ⟨s3, us, h3', tn⟩
        obtain ⟨q, rfl, hq⟩ := getR hi
        have hqm := List.mem_of_getElem? hq
        have eq2 : ∃ l, (placesL r)[i]? = some l ∧ q.2 = tsL r 1 l (levT ns) := by
          have e : (ks.map (·.2))[i]? = some q.2 := by rw [List.getElem?_map, hq]; rfl
          rw [ek, List.getElem?_map] at e
          cases hl : (placesL r)[i]? with
          | none =>
            rw [hl] at e
            cases e
          | some l =>
            rw [hl] at e
            exact ⟨l, rfl, (Option.some.inj e).symm⟩
        obtain ⟨l, hl, el⟩ := eq2
        refine ⟨rfl, _, rfl, _, rfl, q.1, q.2, levB ns, rfl, .inr (s3.tup (tk q hqm)), by omega, by omega, by rw [el]; exact tsL_len h14 _ _ _, fun v2 H4 s4 hv2 => ?_⟩
        have ev : (voL r ns)[i]? = some (lowL q.2 (levB ns)) := by
          unfold voL
          rw [List.getElem?_map, hl, el]
          rfl
        have ul := tn.1
        rw [List.length_take] at ul
        refine ⟨us, s4 _ _ h3', sl_lt (by have := ltL hq; omega), same_at (s3.trans s4) hD3, us ++ [v2], upd_same, ?_⟩
        rw [takeS ev]
        have tn4 := s4.nums tn
        have num_up : ∀ {v : V} {n : Num}, NumAt K H4 v n → NumAt K (upd H4 D3 (.lst (us ++ [v2]))) v n := fun ⟨p', t', e', q1, q2⟩ => ⟨p', t', e', sqt_at q1 (s4 _ _ h3'), sqt_at q2 (s4 _ _ h3')⟩
        exact Nums.snoc ⟨tn4.1, fun i v n e1 e2 => num_up (tn4.2 i v n e1 e2)⟩ (num_up hv2)
      · rintro H3 ⟨s3, us, h3', tn⟩
        have vl : (voL r ns).length = (placesL r).length := by
          unfold voL
          rw [List.length_map]
        rw [List.length_map, kl, ← vl, List.take_length] at tn
        refine ⟨D3, us, rfl, .inl ⟨SqL.of h3', fun p2 hp2 => ?_⟩⟩
        have sp : Same H3 (upd H3 p2 (.tup us)) := same_upd hp2
        exact k _ _ (((s12.trans s3)).trans sp) ⟨p2, us, rfl, SqT.of upd_same, sp.nums tn⟩
end
end K45

/-! Numbers are numbers, rows are rows (those that are). -/
namespace K45
open PySem PySem.Spec PyProof.Rows L2
theorem hu65 {k : Nat} {A : Around} (hr : Room k A) : A.units + 64 < cLine := hr.units
theorem dp_ints {K : PySem.W.Frag} {H : Hp} : ∀ ns : List Int, DpAll K H (ns.map V.int) (ns.map PyData.int)
  | [] => .nil
  | n :: r => .cons (.int n) (dp_ints r)
def numD (n : Num) : PyData := .tuple [.tuple (n.1.map PyData.int), .int n.2]
theorem num_dp {K : PySem.W.Frag} {H : Hp} {v : V} {n : Num} (h : NumAt K H v n) : Dp K H v (numD n) := by
  obtain ⟨p, t, rfl, h1, h2⟩ := h
  exact .tup h1 (.cons (.tup h2 (dp_ints n.1)) (.cons (.int n.2) .nil))
theorem eqv_ints : ∀ a : List Int, PyData.eqvAll (a.map PyData.int) (a.map PyData.int) = true
  | [] => by simp [PyData.eqvAll]
  | x :: a => by simp [PyData.eqvAll, PyData.eqv, eqv_ints a]
theorem num_eqv (n : Num) : PyData.eqv (numD n) (numD n) = true := by
  unfold numD
  simp [PyData.eqv, PyData.eqvAll, eqv_ints]
theorem ints_lay : ∀ ns : List Int, PyData.canLayAll0 (ns.map PyData.int) = true
  | [] => rfl
  | n :: r => by simp [PyData.canLayAll0, PyData.canLay0, ints_lay r]
theorem ints_depth : ∀ ns : List Int, PyData.depthAll (ns.map PyData.int) ≤ 1
  | [] => by simp [PyData.depthAll]
  | n :: r => by
    have := ints_depth r
    simp only [List.map_cons, PyData.depthAll, PyData.depth]
    omega
theorem num_shaped (n : Num) : SeqAt.shaped (numD n) = true := by
  unfold SeqAt.shaped numD
  rw [Bool.and_eq_true]
  have h2 := ints_depth n.1
  refine ⟨by simp [PyData.canLay0, PyData.canLayAll0, ints_lay], decide_eq_true ?_⟩
  simp only [PyData.depth, PyData.depthAll]
  omega
/-- a number of the order, in lowest terms -/
theorem unitsL_len (e : Int) : (unitsL e).length ≤ e.toNat := by
  unfold unitsL
  exact Nat.le_trans (List.length_filter_le _ _) (Nat.le_of_eq (rgL_len _ _))
section
variable {P : Program} {w : World} {K : PySem.W.Frag} {mg : Str → Option Value} {base : Heap} {f f1 f2 f3 f4 f5 : Addr} {fd fd1 fd2 fd3 fd4 fd5 : FuncData}
def spOrd (b : V) : Sp := fun vs H Q _ => ∃ e : Int, vs = [.int e] ∧ 1 ≤ e ∧ e ≤ 60 ∧ Q b H
theorem scIsOrd : FnScope ["thing"] ["thing"] (defScope sIsOrd) := ⟨rfl, rfl, rfl, by decide +kernel, rfl, by decide +kernel, by decide +kernel⟩
theorem ok_isOrd (F : FnP K "is_order" sIsOrd f fd) (F1 : FnP K "is_integer" sIsInt f1 fd1) (g1 : mg "is_integer" = some (.ref f1)) (G1 : FnOk P w K mg base CX0 1 f1 fd1 ["thing"] spIsInt) (gO : ∃ t, mg "MOST_ORDER" = some (.int 60 t)) : FnOk P w K mg base CX0 2 f fd ["thing"] (spOrd (.bl true)) := by
  have b1 : Binds K fd1 ["thing"] [] := F1.bindsN fun _ _ _ _ _ _ us hl => match us, hl with | [_], _ => rfl
  obtain ⟨t1, e1⟩ := gO
  refine F.ok scIsOrd (fun vs H Q E h => ?_) (fun cdv A outer s H vs Q E hr h => ?_)
  · obtain ⟨e, rfl, _⟩ := h
    rfl
  · obtain ⟨e, rfl, h1, h2, k⟩ := h
    refine ⟨_, PSs.nox (pss_one (ps_ret (pe_and (pe_call G1 hr rfl g1 F1.kp b1 .nil pass0 (pa_cons (pv 0) pa_nil)) (pe_one (pe_chain op_le op_le pe_int (pv 0) (pe_glob (v := .int 60) rfl e1 ⟨_, rfl⟩)))))), ?_⟩
    have c1 : decide ((1 : Int) ≤ e) = true := decide_eq_true h1
    have c2 : decide (e ≤ 60) = true := decide_eq_true h2
    refine ⟨_, rfl, e, rfl, _, rfl, _, rfl, _, _, rfl, rfl, _, rfl, ?_⟩
    refine ite2 (fun _ => ?_) (fun z => absurd c1 z)
    refine ⟨_, _, rfl, rfl, ?_⟩
    show Q (.bl (decide (e ≤ 60))) H
    rw [c2]
    exact k
theorem scChkO : FnScope ["order"] ["order"] (defScope sChkO) := ⟨rfl, rfl, rfl, by decide +kernel, rfl, by decide +kernel, by decide +kernel⟩
theorem ok_chkO (F : FnP K "check_order" sChkO f fd) (F1 : FnP K "is_order" sIsOrd f1 fd1) (g1 : mg "is_order" = some (.ref f1)) (G1 : FnOk P w K mg base CX0 2 f1 fd1 ["thing"] (spOrd (.bl true))) : FnOk P w K mg base CX0 3 f fd ["order"] (spOrd .non) := by
  have b1 : Binds K fd1 ["thing"] [] := F1.bindsN fun _ _ _ _ _ _ us hl => match us, hl with | [_], _ => rfl
  refine F.ok scChkO (fun vs H Q E h => ?_) (fun cdv A outer s H vs Q E hr h => ?_)
  · obtain ⟨e, rfl, _⟩ := h
    rfl
  · obtain ⟨e, rfl, h1, h2, k⟩ := h
    refine ⟨_, PSs.nox (pss_one (ps_if (pt_not (pt_val (pe_call G1 hr rfl g1 F1.kp b1 .nil pass0 (pa_cons (pv 0) pa_nil)))) (pss_one ps_never) pss_nil)), ?_⟩
    exact ⟨_, rfl, e, rfl, h1, h2, _, rfl, iteF k⟩
def spIsNum (K : PySem.W.Frag) (b : V) : Sp := fun vs H Q _ => ∃ (e : Int) (v : V) (n : Num), vs = [.int e, v] ∧ 1 ≤ e ∧ e ≤ 60 ∧ NumAt K H v n ∧ NumOk e n ∧ ∀ H', Same H H' → Q b H'
theorem scIsNum : FnScope ["order", "thing", "tops", "bottom"] ["order", "thing"] (defScope sIsNum) := ⟨rfl, rfl, rfl, by decide +kernel, rfl, by decide +kernel, by decide +kernel⟩
theorem ok_isNum (F : FnP K "is_number" sIsNum f fd) (B : Bl mg) (F1 : FnP K "check_order" sChkO f1 fd1) (g1 : mg "check_order" = some (.ref f1)) (G1 : FnOk P w K mg base CX0 3 f1 fd1 ["order"] (spOrd .non))
    (F2 : FnP K "is_integers" sIsInts f2 fd2) (g2 : mg "is_integers" = some (.ref f2)) (G2 : FnOk P w K mg base CX0 2 f2 fd2 ["thing"] (spIsInts K)) (F3 : FnP K "is_integer" sIsInt f3 fd3) (g3 : mg "is_integer" = some (.ref f3)) (G3 : FnOk P w K mg base CX0 1 f3 fd3 ["thing"] spIsInt)
    (F4 : FnP K "units_of" sUnits f4 fd4) (g4 : mg "units_of" = some (.ref f4)) (G4 : FnOk P w K mg base CX0 1 f4 fd4 ["order"] spUnits) (F5 : FnP K "lowered" sLow f5 fd5) (g5 : mg "lowered" = some (.ref f5)) (G5 : FnOk P w K mg base CX0 1 f5 fd5 ["tops", "bottom"] (spLow K)) :
    FnOk P w K mg base CX0 4 f fd ["order", "thing"] (spIsNum K (.bl true)) := by
  have b1 : Binds K fd1 ["order"] [] := F1.bindsN fun _ _ _ _ _ _ us hl => match us, hl with | [_], _ => rfl
  have b2 : Binds K fd2 ["thing"] [] := F2.bindsN fun _ _ _ _ _ _ us hl => match us, hl with | [_], _ => rfl
  have b3 : Binds K fd3 ["thing"] [] := F3.bindsN fun _ _ _ _ _ _ us hl => match us, hl with | [_], _ => rfl
  have b4 : Binds K fd4 ["order"] [] := F4.bindsN fun _ _ _ _ _ _ us hl => match us, hl with | [_], _ => rfl
  have b5 : Binds K fd5 ["tops", "bottom"] [] := F5.bindsN fun _ _ _ _ _ _ us hl => match us, hl with | [_, _], _ => rfl
  refine F.ok scIsNum (fun vs H Q E h => ?_) (fun cdv A outer s H vs Q E hr h => ?_)
  · obtain ⟨e, v, n, rfl, _⟩ := h
    rfl
  · obtain ⟨e, v, n, rfl, h1, h2, hv, ok, k⟩ := h
    refine ⟨_, PSs.nox (pss_cons (ps_expr (pe_call G1 hr rfl g1 F1.kp b1 .nil pass0 (pa_cons (pv 0) pa_nil)))
      (pss_cons (ps_if (PW.pt (pw_or (pt_not (pt_val (pe_callB call_isi (by rfl) (B "isinstance" (by decide +kernel)) (by decide +kernel) (pa_cons (pv 1) (pa_cons (pe_bltn (v := .ty "tuple") rfl (B "tuple" (by decide +kernel)) (by decide +kernel) rfl) pa_nil))))) (pw_or1 (pt_cmpR op_ne (pe_callB call_len_seq (by rfl) (B "len" (by decide +kernel)) PySem.boot_len (pa_cons (pv 1) pa_nil)) pe_int (nomark _))))) (pss_one ps_never) pss_nil)
      (pss_cons (ps_asg (pv 1) (pg_tup rfl (pgs_cons (pg_name (i := 2) scIsNum.nd rfl (Or.inl rfl)) (pgs_cons (pg_name (i := 3) scIsNum.nd rfl (Or.inl rfl)) pgs_nil))))
      (pss_cons (ps_if (PW.pt (pw_or (pt_not (pt_val (pe_call G2 (hr.mono (by decide)) rfl g2 F2.kp b2 .nil pass0 (pa_cons (pv 2) pa_nil)))) (pw_or (pt_not (pt_val (pe_call G3 (hr.mono (by decide)) rfl g3 F3.kp b3 .nil pass0 (pa_cons (pv 3) pa_nil)))) (pw_or1 (pt_cmpR op_lt (pv 3) pe_int (nomark _)))))) (pss_one ps_never) pss_nil)
      (pss_one (ps_ret (pe_and (pe_cmpR op_eq (pe_callB call_len_seq (by rfl) (B "len" (by decide +kernel)) PySem.boot_len (pa_cons (pv 2) pa_nil)) (pe_callB call_len_seq (by rfl) (B "len" (by decide +kernel)) PySem.boot_len (pa_cons (pe_call G4 (hr.mono (by decide)) rfl g4 F4.kp b4 .nil pass0 (pa_cons (pv 0) pa_nil)) pa_nil)) (nomark _))
        (pe_one (pe_cmpR (op_eqD (hu65 hr)) (pe_call G5 (hr.mono (by decide)) rfl g5 F5.kp b5 .nil pass0 (pa_cons (pv 2) (pa_cons (pv 3) pa_nil))) (pv 1) (nomark _)))))))))), ?_⟩
    obtain ⟨p, t, rfl, hp, ht⟩ := id hv
    refine ⟨_, rfl, e, rfl, h1, h2, ?_⟩
    refine ⟨_, rfl, _, _, .type "tuple", _, true, rfl, .ty "tuple", tyT hp, kit_ty (by decide +kernel), _, rfl, ?_⟩
    refine iteF ?_
    refine ⟨_, rfl, p, _, rfl, .inr hp, rfl, _, rfl, ?_⟩
    refine iteF ?_
    refine ⟨_, rfl, p, _, rfl, hp, rfl, _, _, rfl, _, _, rfl, rfl, ?_⟩
    have ul := unitsL_len e
    have ol := ok.len
    refine ⟨_, rfl, _, n.1, rfl, ⟨t, rfl, ht⟩, by omega, fun H1 s1 => ⟨_, rfl, iteF ?_⟩⟩
    refine ⟨_, rfl, n.2, rfl, _, rfl, iteF ?_⟩
    refine ⟨_, rfl, _, _, rfl, rfl, _, rfl, ?_⟩
    have b0 := ok.pos
    have b2 := ok.big
    refine ite2 (fun c => absurd (of_decide_eq_true c) (by omega)) fun _ => ?_
    refine ⟨_, rfl, t, _, rfl, .inr (s1.tup ht), _, rfl, e, rfl, h1, h2, fun U H2 s2 nU hU => ?_⟩
    refine ⟨U, _, rfl, .inl (SqL.of hU), rfl, ?_⟩
    have c3 : decide (V.int (((n.1.map V.int).length : Nat) : Int) = V.int ((((unitsL e).map V.int).length : Nat) : Int)) = true := decide_eq_true (by rw [List.length_map, List.length_map, ol])
    refine ⟨_, rfl, ?_⟩
    refine ite2 (fun _ => ?_) (fun z => absurd c3 z)
    have s12 := s1.trans s2
    refine ⟨_, rfl, _, rfl, t, n.1, n.2, rfl, .inr (s12.tup ht), b0, by omega, by omega, fun v2 H3 s3 hv2 => ?_⟩
    rw [ok.low] at hv2
    refine ⟨_, rfl, numD n, numD n, num_dp hv2, num_dp ((s12.trans s3).num hv), num_shaped n, num_shaped n, ?_⟩
    rw [num_eqv]
    exact k H3 (s12.trans s3)
end
end K45

/-! is_row, check_row, voices. -/
namespace K45
open PySem PySem.Spec PyProof.Rows L2
theorem rr_szl : ∀ r ∈ RR, (((placesL r).length : Nat) : Int) = sizeL r := by decide +kernel
section
variable {P : Program} {w : World} {K : PySem.W.Frag} {mg : Str → Option Value} {base : Heap} {f f1 f2 f3 f4 f5 C fI fM : Addr} {fd fd1 fd2 fd3 fd4 fd5 fdI : FuncData}
def spSzOf (K : PySem.W.Frag) : Sp := fun vs H Q _ => ∃ (v : V) (r : List Int), vs = [v] ∧ TupI K H v r ∧ r ∈ RR ∧ ∀ H', Same H H' → Q (.int (sizeL r)) H'
theorem scSzOf : FnScope ["rings"] ["rings"] (defScope sSizeOf) := ⟨rfl, rfl, rfl, by decide +kernel, rfl, by decide +kernel, by decide +kernel⟩
theorem ok_szOf (F : FnP K "size_of" sSizeOf f fd) (F1 : FnP K "check_rings" sChkR f1 fd1) (g1 : mg "check_rings" = some (.ref f1)) (G1 : FnOk P w K mg base CX0 4 f1 fd1 ["rings"] (spNon K)) (F2 : FnP K "_size" sSize f2 fd2) (g2 : mg "_size" = some (.ref f2)) : FnOk P w K mg base CX0 5 f fd ["rings"] (spSzOf K) := by
  have G2 : FnOk P w K mg base CX0 1 f2 fd2 ["lengths"] (spSize' K) := ok_size F2
  have b1 : Binds K fd1 ["rings"] [] := F1.bindsN fun _ _ _ _ _ _ us hl => match us, hl with | [_], _ => rfl
  have b2 : Binds K fd2 ["lengths"] [] := F2.bindsN fun _ _ _ _ _ _ us hl => match us, hl with | [_], _ => rfl
  refine F.ok scSzOf (fun vs H Q E h => ?_) (fun cdv A outer s H vs Q E hr h => ?_)
  · obtain ⟨v, r, rfl, _⟩ := h
    rfl
  · obtain ⟨v, r, rfl, ⟨a, rfl, ha⟩, h14, k⟩ := h
    refine ⟨_, PSs.nox (pss_cons (ps_expr (pe_call G1 hr rfl g1 F1.kp b1 .nil pass0 (pa_cons (pv 0) pa_nil))) (pss_one (ps_ret (pe_call G2 (hr.mono (by decide)) rfl g2 F2.kp b2 .nil pass0 (pa_cons (pv 0) pa_nil))))), ?_⟩
    exact ⟨_, rfl, _, r, rfl, ⟨a, rfl, ha⟩, h14, fun H1 s1 => ⟨_, rfl, _, r, rfl, ⟨a, rfl, s1.tup ha⟩, h14, k H1 s1⟩⟩
def spRow (K : PySem.W.Frag) (b : V) : Sp := fun vs H Q _ => ∃ (v u : V) (r : List Int) (ns : List Num), vs = [v, u] ∧ TupI K H v r ∧ RowAt K H u ns ∧ r ∈ RR ∧ RowG r ns ∧ ∀ H', Same H H' → Q b H'
abbrev irN : List Str := ["rings", "thing", "size", "order", "item"]
theorem scIsRow : FnScope irN ["rings", "thing"] (defScope sIsRow) := ⟨rfl, rfl, rfl, by decide +kernel, rfl, by decide +kernel, by decide +kernel⟩
theorem ok_isRow (F : FnP K "is_row" sIsRow f fd) (B : Bl mg) (F1 : FnP K "size_of" sSizeOf f1 fd1) (g1 : mg "size_of" = some (.ref f1)) (G1 : FnOk P w K mg base CX0 5 f1 fd1 ["rings"] (spSzOf K)) (F2 : FnP K "order_of" sOrdOf f2 fd2) (g2 : mg "order_of" = some (.ref f2)) (G2 : FnOk P w K mg base CX0 5 f2 fd2 ["rings"] (spOrder K))
    (F3 : FnP K "is_number" sIsNum f3 fd3) (g3 : mg "is_number" = some (.ref f3)) (G3 : FnOk P w K mg base CX0 4 f3 fd3 ["order", "thing"] (spIsNum K (.bl true))) : FnOk P w K mg base CX0 6 f fd ["rings", "thing"] (spRow K (.bl true)) := by
  have b1 : Binds K fd1 ["rings"] [] := F1.bindsN fun _ _ _ _ _ _ us hl => match us, hl with | [_], _ => rfl
  have b2 : Binds K fd2 ["rings"] [] := F2.bindsN fun _ _ _ _ _ _ us hl => match us, hl with | [_], _ => rfl
  have b3 : Binds K fd3 ["order", "thing"] [] := F3.bindsN fun _ _ _ _ _ _ us hl => match us, hl with | [_, _], _ => rfl
  refine F.ok scIsRow (fun vs H Q E h => ?_) (fun cdv A outer s H vs Q E hr h => ?_)
  · obtain ⟨v, u, r, ns, rfl, _⟩ := h
    rfl
  · obtain ⟨v, u, r, ns, rfl, ⟨a, rfl, ha⟩, hR, h14, ro, k⟩ := h
    refine ⟨_, PSs.nox (pss_cons (ps_asg (pe_tup (pa_cons (pe_call G1 hr rfl g1 F1.kp b1 .nil pass0 (pa_cons (pv 0) pa_nil)) (pa_cons (pe_call G2 hr rfl g2 F2.kp b2 .nil pass0 (pa_cons (pv 0) pa_nil)) pa_nil))) (pg_tup rfl (pgs_cons (pg_name (i := 2) scIsRow.nd rfl (Or.inl rfl)) (pgs_cons (pg_name (i := 3) scIsRow.nd rfl (Or.inr rfl)) pgs_nil))))
      (pss_cons (ps_if (PW.pt (pw_or (pt_not (pt_val (pe_callB call_isi (by rfl) (B "isinstance" (by decide +kernel)) (by decide +kernel) (pa_cons (pv 1) (pa_cons (pe_bltn (v := .ty "tuple") rfl (B "tuple" (by decide +kernel)) (by decide +kernel) rfl) pa_nil))))) (pw_or1 (pt_cmpR op_ne (pe_callB call_len_seq (by rfl) (B "len" (by decide +kernel)) PySem.boot_len (pa_cons (pv 1) pa_nil)) (pv 2) (nomark _))))) (pss_one ps_never) pss_nil)
      (pss_one (ps_ret (pe_callB (cr_all rfl) (by rfl) (B "all" (by decide +kernel)) (by decide +kernel) (pa_cons
        (pe_lc (own := [("item", 4)]) (g := gName 4) (tt := tYes) (te := tCall (spIsNum K (.bl true)) [] E0 (tCons (tVar 3) (tCons (tVar 4) tNil))) rfl scIsRow.nd (pi_tup (pv 1)) (blkOk_by (own := [("item", 4)]) (N := irN) (sc := defScope sIsRow) (by decide +kernel))
          (fun _ _ _ _ _ => pg_name (i := 4) scIsRow.nd rfl (Or.inl rfl)) (fun _ _ _ _ _ => pts_nil) (fun _ _ _ _ _ => pe_call G3 (hr.mono (by decide)) rfl g3 F3.kp b3 .nil pass0 (pa_cons (pv 3) (pa_cons (pv 4) pa_nil)))) pa_nil)))))), ?_⟩
    have eb := er_bd _ (er_in r h14)
    have h16 := rr_pl0 r h14
    obtain ⟨p, us, rfl, hp, hN⟩ := id hR
    refine ⟨_, rfl, _, r, rfl, ⟨a, rfl, ha⟩, h14, fun H1 s1 => ?_⟩
    refine ⟨_, rfl, _, r, rfl, ⟨a, rfl, s1.tup ha⟩, h14, fun H2 s2 => ?_⟩
    refine ⟨by show 2 ≤ sizeLine; decide, fun t0 ht0 => ?_⟩
    have s3 := same_new (o := .tup [.int (sizeL r), .int (ordL r)]) (s1.trans s2) ht0
    refine ⟨t0, _, rfl, SqT.of upd_same, rfl, _, _, rfl, _, _, rfl, rfl, ?_⟩
    generalize upd H2 t0 (.tup [.int (sizeL r), .int (ordL r)]) = H3 at s3
    refine ⟨_, rfl, _, _, .type "tuple", _, true, rfl, .ty "tuple", tyT (s3.tup hp), kit_ty (by decide +kernel), _, rfl, ?_⟩
    refine iteF ?_
    refine ⟨_, rfl, p, _, rfl, .inr (s3.tup hp), _, rfl, rfl, _, rfl, ?_⟩
    have el : ((us.length : Nat) : Int) = sizeL r := by rw [hN.1, ro.ok.len, rr_szl r h14]
    rw [el]
    refine ite2 (fun c => absurd c (by simp)) fun _ => ?_
    refine ⟨_, rfl, p, rfl, ⟨_, s3.tup hp⟩, fun D hD => ?_⟩
    refine lc_tup (K := K) (a := p) (xs := us) (fun i H4 => Same H3 H4 ∧ H4 D = some (.lst ((List.replicate i true).map V.bl))) ⟨same_upd hD, upd_same⟩ (fun i H4 _ ⟨s4, _⟩ => s4.tup (s3.tup hp)) ?_ ?_
    · rintro i y H4 hi ⟨s4, h4⟩
      obtain ⟨n, hn, hnum⟩ := hN.get hi
      have nm := List.mem_of_getElem? hn
      have il := ltL hn
      have lns := ro.ok.len
      refine ⟨rfl, _, rfl, _, rfl, ordL r, _, n, rfl, by omega, by omega, (s3.trans s4).num hnum, ro.num n nm, fun H5 s5 => ?_⟩
      refine ⟨_, s5 _ _ h4, sl_lt (by rw [List.length_map, List.length_replicate]; omega), same_at (s4.trans s5) hD, ?_⟩
      rw [upd_same, List.replicate_succ', List.map_append]
      rfl
    · rintro H4 ⟨s4, h4⟩
      refine ⟨D, _, rfl, SqL.of h4, ?_⟩
      rw [all_true]
      exact k H4 (s3.trans s4)
theorem scChkRow : FnScope ["rings", "row"] ["rings", "row"] (defScope sChkRow) := ⟨rfl, rfl, rfl, by decide +kernel, rfl, by decide +kernel, by decide +kernel⟩
theorem ok_chkRow (F : FnP K "check_row" sChkRow f fd) (F1 : FnP K "is_row" sIsRow f1 fd1) (g1 : mg "is_row" = some (.ref f1)) (G1 : FnOk P w K mg base CX0 6 f1 fd1 ["rings", "thing"] (spRow K (.bl true))) : FnOk P w K mg base CX0 7 f fd ["rings", "row"] (spRow K .non) := by
  have b1 : Binds K fd1 ["rings", "thing"] [] := F1.bindsN fun _ _ _ _ _ _ us hl => match us, hl with | [_, _], _ => rfl
  refine F.ok scChkRow (fun vs H Q E h => ?_) (fun cdv A outer s H vs Q E hr h => ?_)
  · obtain ⟨v, u, r, ns, rfl, _⟩ := h
    rfl
  · obtain ⟨v, u, r, ns, rfl, hv, hR, h14, ro, k⟩ := h
    refine ⟨_, PSs.nox (pss_one (ps_if (pt_not (pt_val (pe_call G1 hr rfl g1 F1.kp b1 .nil pass0 (pa_cons (pv 0) (pa_cons (pv 1) pa_nil))))) (pss_one ps_never) pss_nil)), ?_⟩
    exact ⟨_, rfl, _, rfl, _, _, r, ns, rfl, hv, hR, h14, ro, fun H1 s1 => ⟨_, rfl, iteF (k H1 s1)⟩⟩
def spVoices (K : PySem.W.Frag) : Sp := fun vs H Q _ => ∃ (v u : V) (r : List Int) (ns : List Num), vs = [v, u] ∧ TupI K H v r ∧ RowAt K H u ns ∧ r ∈ RR ∧ RowG r ns ∧ ∀ v' H', Same H H' → RowAt K H' v' (voL r ns) → Q v' H'
end
end K45

/-! enumerate of a tuple. -/
namespace K45
open PySem PySem.Spec PyProof.Rows L2
theorem meets_enum1 {v : Value} {o : Obj} {H : Heap → Prop} (B : Begins v o H) :
    Meets (Builtin.«enumerate.__new__» ⟨[.type "enumerate", v], []⟩) (fun _ R s => H s.heap ∧
      R (.ok (.ret (.ref (s.heap.push o).objs.size))) { s with heap := (s.heap.push o).push { cls := .type "enumerate", data := .fields #[.none, .bool false, .ref s.heap.objs.size, rawInt 0, .none, .none] } }) :=
  .of_wp fun prog w A R s h => by
    obtain ⟨hp, g, d, tk, os⟩ := s; obtain ⟨h1, h⟩ := h
    have hsub := sub_enumerate
    have q1 : ∀ {A' : Around} {E : Value → Shared → Prop} {Q : Value → Shared → Prop}, Q (.ref hp.objs.size) ⟨hp.push o, g, d, tk, os⟩ → wpAny (model prog w) A' (pyIter v) Q E ⟨hp, g, d, tk, os⟩ :=
      fun q => B.iter prog w _ _ ⟨hp, g, d, tk, os⟩ _ h1 q
    wp_walk using q1
    refine wpAny_stack_any fun st => wpAny_pure ?_
    split
    · rename_i c _ _ _ _ _
      cases (c == Value.type "enumerate")
      · wp_walk using q1
        exact ⟨_, rfl, h⟩
      · wp_walk using q1
        exact ⟨_, rfl, h⟩
    · wp_walk using q1
      exact ⟨_, rfl, h⟩
theorem enum1_begins {prog : Program} {w : World} {A : Around} {E : Value → Shared → Prop} {s : Shared} {v : Value} {o : Obj} {H : Heap → Prop} {Q : Value → Shared → Prop} (B : Begins v o H) (h1 : H s.heap)
    (h : ∀ h', IsEnum h' (s.heap.objs.size + 1) s.heap.objs.size 0 .none → h'.get? s.heap.objs.size = some o → h'.objs.size = s.heap.objs.size + 2 →
      (∀ b o, s.heap.get? b = some o → h'.get? b = some o) → Q (.ref (s.heap.objs.size + 1)) { s with heap := h' }) :
    wpAny (model prog w) A (call (.type "enumerate") [v]) Q E s := by
  refine callType_new PySem.F.called_enumerate (by decide) (PySem.F.typeCall_enumerate_1 _) (PySem.F.newCall_enumerate_1 _) (fun obj => PySem.F.args_object_init_2 obj _) PySem.F.entry_enumerate_new
    (meets_enum1 B) ⟨h1, ?_⟩
  have hz : (s.heap.push o).objs.size = s.heap.objs.size + 1 := Heap.size_push ..
  show _ ∧ _
  rw [hz]
  have he : IsEnum ((s.heap.push o).push { cls := .type "enumerate", data := .fields #[.none, .bool false, .ref s.heap.objs.size, rawInt 0, .none, .none] }) (s.heap.objs.size + 1) s.heap.objs.size 0 .none := by
    have := Heap.get?_push_size (s.heap.push o) (o := { cls := .type "enumerate", data := .fields #[.none, .bool false, .ref s.heap.objs.size, rawInt 0, .none, .none] }) rfl
    rw [hz] at this; exact this
  refine ⟨⟨_, he, rfl⟩, h _ he (Heap.get?_push_of_some _ (Heap.get?_push_size _ B.free)) (by rw [Heap.size_push, hz]) fun b o x => Heap.get?_push_of_some _ (Heap.get?_push_of_some _ x)⟩
/-- the tuple at a as it stands at each turn, each item in a new pair -/
def IteT (K : PySem.W.Frag) (a : Addr) : It :=
  ⟨fun i H => ∃ (xs : List V) (x : V), SqT K H a xs ∧ xs[i]? = some x, fun i H v H' => ∃ T x, v = .ref T ∧ H T = none ∧ H' = upd H T (.tup [.int (i : Nat), x]) ∧ ∀ xs, SqT K H a xs → xs[i]? = some x, fun i H => ∃ xs : List V, SqT K H a xs ∧ xs.length = i⟩
theorem turn_enumT {P : Program} {w : World} {K : PySem.W.Frag} {elts : List Expr} {kk : Nat} {tpos : Pos} {a e it : Addr} (hei : e ≠ it) (hea : e ∉ [it, a]) (na : a ≠ it) :
    Turn P w K (.Tuple elts kk tpos) (IteT K a) [e, it] e (fun i h => (∃ old, IsEnum h e it ((0 : Int) + (i : Int)) old) ∧ h.IsTupleIter it a i) where
  mem := by simp
  obj := fun i h st b hb => by
    obtain ⟨⟨old, he⟩, ⟨o, ho, hc, hd⟩⟩ := st
    have e' : b = e ∨ b = it := by simpa using hb
    rcases e' with z | z
    · rw [z]; exact ⟨_, he, fun v q => nomatch q⟩
    · rw [z]; exact ⟨o, ho, fun v q => by rw [hd] at q; cases q⟩
  keep := fun i h h' st k => let ⟨⟨old, he⟩, hi⟩ := st; ⟨⟨old, k e (by simp) _ he⟩, hi.at fun o q => k it (by simp) o q⟩
  item := by
    intro X hP hw hK hc i pins s σ H E I hf st hg
    subst hP hw hK
    obtain ⟨he, h1⟩ := st
    obtain ⟨xs, x, hq, hx⟩ := hg
    obtain ⟨its, rv, p, _⟩ := I.tuple hq
    obtain ⟨u, hu, ru⟩ := rv.get hx
    have hh : X.A.in1.handled = none := I.ok.hd hc
    have G := GoesN.enumFrom (prog := X.prog) (w := X.w) (A := X.A) (elts := elts) (x1 := kk) (pos := tpos) 0 (Draws.tuple hh it a na its.toArray) e hei hea (by simp)
    have l1 := ltL hu
    refine G.goes i s (fun u s2 => ∃ x H', Inv X pins σ H' s2 ∧ RelV x u ∧ (IteT X.K a).yld i H x H' ∧ _ ∧ ∀ b ∈ [e, it], H' b = none) E (by simpa using l1) ⟨he, h1, p⟩ fun v h' tk hY st2 hk htk => ?_
    obtain ⟨T, t, w1, rfl, hT, q1, hI⟩ := hY
    obtain ⟨he', k1, _⟩ := st2
    have e1 : w1 = u := by simpa [hu] using q1.symm
    subst e1
    have new : ObjOk X.prog X.w (upd H T (.tup [.int (i : Nat), x])) h' T (.tup [.int (i : Nat), x]) := ⟨by show 2 ≤ sizeLine; decide, [.int ((0 : Int) + (i : Int)) t, w1], .cons ⟨t, by rw [Int.zero_add]⟩ (.cons ru .nil), hI⟩
    have I1 := I.turnedNew (t' := tk) (ch := [e, it]) hk hf hT new
    refine ⟨.ref T, _, I1, rfl, ⟨T, x, rfl, I.hok.fresh hT, rfl, fun l hl => by rw [I.tuple_inj hl hq]; exact hx⟩, ⟨he', k1⟩, fun b hb => ?_⟩
    have hlt : b < s.heap.objs.size := by
      have e' : b = e ∨ b = it := by simpa using hb
      obtain ⟨_, f0⟩ := he
      obtain ⟨_, f1, _⟩ := h1
      rcases e' with q | q
      · rw [q]; exact Heap.lt_size f0
      · rw [q]; exact Heap.lt_size f1
    rw [upd_ne (Nat.ne_of_lt (Nat.lt_of_lt_of_le hlt hT))]
    exact (hf b hb).1
  done := by
    intro X hP hw hK hc i pins s σ H E I hf st hg
    subst hP hw hK
    obtain ⟨he, h1⟩ := st
    obtain ⟨xs, hq, hn⟩ := hg
    obtain ⟨its, rv, p, _⟩ := I.tuple hq
    have l1 := rv.length
    have hh : X.A.in1.handled = none := I.ok.hd hc
    have G := GoesN.enumFrom (prog := X.prog) (w := X.w) (A := X.A) (elts := elts) (x1 := kk) (pos := tpos) 0 (Draws.tuple hh it a na its.toArray) e hei hea (by simp)
    have en : its.toArray.size = i := by simp; omega
    rw [en] at G
    exact G.stops s _ E ⟨he, h1, p⟩ fun h' tk hk htk => I.turnedL (t' := tk) (ch := [e, it]) hk hf
  self := fun A i s Q E st h => let ⟨⟨_, he⟩, _⟩ := st; wpAny_pyIter_enum he h
def iEnumT (K : PySem.W.Frag) (ta : TA) : TI := fun σ H R => ta σ H fun vs H1 => ∃ a xs, vs = [.ref a] ∧ SqT K H1 a xs ∧ R (IteT K a) H1
theorem pi_enumT {X : Cx} {e : Expr} {ta : TA} {p pos tpos : Pos} {elts : List Expr} {kk : Nat} (hg : Gl X "enumerate") (hm : X.mg "enumerate" = none) (ha : PA X [e] ta) (hs : starEach [e] X.env = [(false, eval e X.env)] := by rfl) :
    PI X (.Tuple elts kk tpos) (.Call (.Name "enumerate" p) [e] [] pos) (iEnumT X.K ta) := by
  refine ⟨fun pins s σ H R I h => ?_⟩
  refine Call_ (ld_blt I hg hm boot_enumerate (PyProof.Rows.callWith_type1 (thn (ha.run pos pins s σ H _ I h) fun us s1 ⟨vs, H1, I1, r1, q1⟩ => ?_) hs rfl))
  obtain ⟨a, xs, rfl, hq, q⟩ := q1
  cases r1 with
  | cons r rr =>
    cases rr
    cases r
    obtain ⟨its, rv, p', _⟩ := I1.tuple hq
    obtain ⟨o1, ho1, _⟩ := id p'
    have la := Heap.lt_size ho1
    generalize hN : s1.heap.objs.size = N at la
    refine enum1_begins (begins_tuple a its.toArray) p' fun h' he g1 hsz hk => wpAny_pyIter_enum he ?_
    rw [hN] at he g1 ⊢
    have I2 : Inv X pins σ H1 { s1 with heap := h' } := I1.kept (t' := s1.toks) hk
    refine ⟨N + 1, [N + 1, N], _, _, H1, rfl, I2, turn_enumT (a := a) (e := N + 1) (it := N) (Nat.succ_ne_self _) ?_ (Nat.ne_of_lt la), ⟨⟨_, he⟩, ⟨_, g1, rfl, rfl⟩⟩, fun b hb => ?_, q⟩
    · intro z
      have e' : N + 1 = N ∨ N + 1 = a := by simpa using z
      rcases e' with z | z
      · exact Nat.succ_ne_self _ z
      · rw [← z] at la
        exact Nat.lt_irrefl _ (Nat.lt_of_succ_lt la)
    · have hle : s1.heap.objs.size ≤ b := by
        have e' : b = N + 1 ∨ b = N := by simpa using hb
        rw [hN]
        rcases e' with z | z
        · rw [z]; exact Nat.le_add_right _ _
        · rw [z]; exact Nat.le_refl _
      exact I1.fpOk hle (I1.hok.fresh hle)
theorem walk_enumT {K : PySem.W.Frag} {a : Addr} {xs : List V} : Walk (IteT K a) xs.length (fun H => SqT K H a xs) (YPair (fun i => some (.int (i : Nat))) (fun i => xs[i]?)) := by
  refine ⟨fun i _ hi q => ⟨xs, xs[i], q, by simp [hi]⟩, fun _ q => ⟨xs, q, rfl⟩, fun i H v H' _ q y => ?_⟩
  obtain ⟨T, x, h1, h2, h3, h4⟩ := y
  exact ⟨T, .int (i : Nat), x, h1, h2, h3, rfl, h4 xs q⟩
end K45

/-! Numbers multiplied, exchanged; turns. -/
namespace K45
open PySem PySem.Spec PyProof.Rows L2
theorem mulR_len (one : Int) (i : Nat) (others tot : List Int) : ∀ k, (mulR one i others tot k).length = tot.length
  | 0 => rfl
  | k + 1 => by
    show (List.set _ _ _).length = tot.length
    rw [List.length_set, mulR_len one i others tot k]
theorem mulGo_len (ones others : List Int) : ∀ i, (mulGo ones others i).length = ones.length + others.length - 1
  | 0 => by simp [mulGo]
  | i + 1 => by
    show (mulR _ _ _ _ _).length = _
    rw [mulR_len, mulGo_len ones others i]
section
variable {P : Program} {w : World} {K : PySem.W.Frag} {mg : Str → Option Value} {base : Heap} {f f1 f2 f3 f4 f5 C fI fM : Addr} {fd fd1 fd2 fd3 fd4 fd5 fdI : FuncData}
def spMulP (K : PySem.W.Frag) : Sp := fun vs H Q _ => ∃ (a b c : Addr) (ones others dv : List Int), vs = [.ref a, .ref b, .ref c] ∧ SqT K H a (ones.map V.int) ∧ SqT K H b (others.map V.int) ∧ SqT K H c (dv.map V.int) ∧ 2 ≤ dv.length ∧ dv.length ≤ 100 ∧ (∀ d ∈ dv, -1000 ≤ d ∧ d ≤ 1000) ∧ 1 ≤ ones.length ∧ ones.length ≤ 50 ∧ 1 ≤ others.length ∧ others.length ≤ 50 ∧ ((∀ t ∈ ones, -(2 ^ 64) < t ∧ t < 2 ^ 64) ∨ ∀ t ∈ others, -(2 ^ 64) < t ∧ t < 2 ^ 64) ∧
  ∀ t H', Same H H' → H t = none → H' t = some (.tup ((mulL ones others dv).map V.int)) → Q (.ref t) H'
abbrev mpN : List Str := ["ones", "others", "polynomial", "total", "i", "one", "k", "other"]
theorem scMulP : FnScope mpN ["ones", "others", "polynomial"] (defScope sMulP) := ⟨rfl, rfl, rfl, by decide +kernel, rfl, by decide +kernel, by decide +kernel⟩
theorem ok_mulP (F : FnP K "multiplied" sMulP f fd) (B : Bl mg) (F1 : FnP K "reduced" sRed f1 fd1) (g1 : mg "reduced" = some (.ref f1)) (G1 : FnOk P w K mg base CX0 2 f1 fd1 ["items", "polynomial"] (spRed K)) : FnOk P w K mg base CX0 3 f fd ["ones", "others", "polynomial"] (spMulP K) := by
  have b1 : Binds K fd1 ["items", "polynomial"] [] := F1.bindsN fun _ _ _ _ _ _ us hl => match us, hl with | [_, _], _ => rfl
  refine F.ok scMulP (fun vs H Q E h => ?_) (fun cdv A outer s H vs Q E hr h => ?_)
  · obtain ⟨a, b, c, ones, others, dv, rfl, _⟩ := h
    rfl
  · obtain ⟨a, b, c, ones, others, dv, rfl, ha, hb, hc, d1, d2, db, l1, l2, m1, m2, ob, k⟩ := h
    refine ⟨_, PSs.nox (pss_cons (ps_set (i := 3) scMulP.nd rfl (Or.inl rfl) (pe_op op_rep (pe_lst (pa_cons pe_int pa_nil)) (pe_op op_sub (pe_op op_add (pe_callB call_len_seq (by rfl) (B "len" (by decide +kernel)) PySem.boot_len (pa_cons (pv 0) pa_nil)) (pe_callB call_len_seq (by rfl) (B "len" (by decide +kernel)) PySem.boot_len (pa_cons (pv 1) pa_nil))) pe_int)))
      (pss_cons (ps_for PassesOwn.never rfl (pi_enumT (by rfl) (B "enumerate" (by decide +kernel)) (pa_cons (pv 0) pa_nil)) (pg_tup rfl (pgs_cons (pg_name (i := 4) scMulP.nd rfl (Or.inl rfl)) (pgs_cons (pg_name (i := 5) scMulP.nd rfl (Or.inl rfl)) pgs_nil)))
        (pss_one (ps_for PassesOwn.never rfl (pi_enumT (by rfl) (B "enumerate" (by decide +kernel)) (pa_cons (pv 1) pa_nil)) (pg_tup rfl (pgs_cons (pg_name (i := 6) scMulP.nd rfl (Or.inl rfl)) (pgs_cons (pg_name (i := 7) scMulP.nd rfl (Or.inl rfl)) pgs_nil)))
          (pss_one (ps_augS (pv 3) (pe_op op_add (pv 4) (pv 6)) get_list (pe_op op_mul (pv 5) (pv 7)) ip_add set_list)))))
      (pss_one (ps_ret (pe_call G1 hr rfl g1 F1.kp b1 .nil pass0 (pa_cons (pv 3) (pa_cons (pv 2) pa_nil))))))), ?_⟩
    refine ⟨by show 1 ≤ sizeLine; decide, fun z hz => ?_⟩
    have sz : Same H (upd H z (.lst [.int 0])) := same_upd hz
    have em : (((ones.map V.int).length : Int) + ((others.map V.int).length : Int) - 1) = ((ones.length + others.length - 1 : Nat) : Int) := by
      rw [List.length_map, List.length_map]
      omega
    refine ⟨_, rfl, a, _, rfl, .inr (sz.tup ha), _, rfl, b, _, rfl, .inr (sz.tup hb), _, _, rfl, rfl, _, _, rfl, rfl, z, _, _, rfl, rfl, upd_same, ?_⟩
    rw [em]
    refine ⟨by omega, by omega, ?_, fun D hD => ?_⟩
    · rw [Int.toNat_natCast]
      exact sl_1000 (by simp; omega)
    rw [Int.toNat_natCast, rep_flat]
    have nD : H D = none := sz.free hD
    have s1 : Same H (upd (upd H z (.lst [.int 0])) D (.lst (List.replicate (ones.length + others.length - 1) (V.int 0)))) := same_new sz hD
    refine ⟨_, rfl, a, ones.map V.int, rfl, s1.tup ha, ?_⟩
    refine for_it (walk_enumT (K := K) (a := a) (xs := ones.map V.int)) (fun i σ H2 => ∃ u4 u5 u6 u7, σ = [some (.ref a), some (.ref b), some (.ref c), some (.ref D), u4, u5, u6, u7] ∧ Same H H2 ∧ H2 D = some (.lst ((mulGo ones others i).map V.int))) ⟨none, none, none, none, rfl, s1, ?_⟩ (fun i σ H2 _ ⟨_, _, _, _, _, s2, _⟩ => s2.tup ha) ?_ ?_
    · rw [upd_same]
      simp [mulGo]
    · rintro i x σ H2 H3 hi ⟨u4, u5, u6, u7, rfl, s2, h2⟩ ⟨T, c1, y, rfl, hT, rfl, ec, ey⟩
      obtain ⟨one, rfl, hone⟩ := getI ey
      obtain rfl := Option.some.inj ec
      rw [List.length_map] at hi
      have s3 : Same H (upd H2 T (.tup [.int (i : Int), .int one])) := same_new s2 hT
      have h3 : upd H2 T (.tup [.int (i : Int), .int one]) D = some (.lst ((mulGo ones others i).map V.int)) := by rw [upd_ne (ne_of_none h2 hT)]; exact h2
      refine ⟨T, _, rfl, SqT.of upd_same, rfl, _, _, rfl, _, _, rfl, rfl, ?_⟩
      generalize hH3 : upd H2 T (.tup [.int (i : Int), .int one]) = H3 at s3 h3
      have gl := mulGo_len ones others i
      refine ⟨_, rfl, b, others.map V.int, rfl, s3.tup hb, ?_⟩
      refine for_it (walk_enumT (K := K) (a := b) (xs := others.map V.int)) (fun j σ H4 => ∃ v6 v7, σ = [some (.ref a), some (.ref b), some (.ref c), some (.ref D), some (.int (i : Int)), some (.int one), v6, v7] ∧ Same H H4 ∧ H4 D = some (.lst ((mulR one i others (mulGo ones others i) j).map V.int))) ⟨u6, u7, rfl, s3, h3⟩ (fun j σ H4 _ ⟨_, _, _, s4, _⟩ => s4.tup hb) ?_ ?_
      · rintro j v σ H4 H5 hj ⟨v6, v7, rfl, s4, h4⟩ ⟨T5, c5, y5, rfl, hT5, rfl, ec5, ey5⟩
        obtain ⟨other, rfl, hother⟩ := getI ey5
        obtain rfl := Option.some.inj ec5
        rw [List.length_map] at hj
        have s5 : Same H (upd H4 T5 (.tup [.int (j : Int), .int other])) := same_new s4 hT5
        have h5 : upd H4 T5 (.tup [.int (j : Int), .int other]) D = some (.lst ((mulR one i others (mulGo ones others i) j).map V.int)) := by rw [upd_ne (ne_of_none h4 hT5)]; exact h4
        have al := mulR_len one i others (mulGo ones others i) j
        have bo : CMul one other := ob.imp (fun z => z one (List.mem_of_getElem? hone)) (fun z => z other (List.mem_of_getElem? hother))
        refine ⟨T5, _, rfl, SqT.of upd_same, rfl, _, _, rfl, _, _, rfl, rfl, ?_⟩
        refine ⟨_, rfl, _, rfl, _, rfl, _, _, rfl, rfl, ?_⟩
        have ek : (i : Int) + (j : Int) = ((i + j : Nat) : Int) := by push_cast; rfl
        refine ⟨D, _, i + j, _, rfl, congrArg V.int ek, SqL.of h5, getD_of (by rw [al, gl]; omega), _, rfl, _, rfl, _, _, rfl, rfl, bo, _, _, rfl, rfl, D, _, _, i + j, rfl, rfl, h5, ?_, some (.int (j : Int)), some (.int other), rfl, same_at s5 nD, ?_⟩
        · rw [ek, List.length_map, al, gl]
          exact ixN_nat (by omega)
        · rw [upd_same]
          have e5 : others.getD j 0 = other := by rw [List.getD_eq_getElem?_getD, hother]; rfl
          show _ = some (HO.lst (((mulR one i others (mulGo ones others i) j).set (i + j) ((mulR one i others (mulGo ones others i) j).getD (i + j) 0 + one * others.getD j 0)).map V.int))
          rw [e5, List.map_set]
      · rintro σ H4 ⟨v6, v7, rfl, s4, h4⟩
        refine ⟨_, _, _, _, rfl, s4, ?_⟩
        rw [h4, List.length_map]
        have e3 : ones.getD i 0 = one := by rw [List.getD_eq_getElem?_getD, hone]; rfl
        show _ = some (HO.lst ((mulR (ones.getD i 0) i others (mulGo ones others i) others.length).map V.int))
        rw [e3]
    · rintro σ H2 ⟨u4, u5, u6, u7, rfl, s2, h2⟩
      rw [List.length_map] at h2
      have gl := mulGo_len ones others ones.length
      refine ⟨_, rfl, _, rfl, D, c, _, dv, rfl, .inl (SqL.of h2), s2.tup hc, d1, d2, by omega, db, fun t H3 s3 nt h3 => ?_⟩
      exact k t H3 (s2.trans s3) (s2.free nt) h3
end
end K45

namespace K45
open PySem PySem.Spec PyProof.Rows L2
theorem redL_len {xs dv : List Int} (h : 1 ≤ dv.length) : (redL xs dv).length = dv.length - 1 := by
  have := divL_le (xs := xs) h
  unfold redL
  rw [List.length_append, List.length_replicate]
  omega
theorem er_units : ∀ e ∈ ER, 1 ≤ (unitsL e).length ∧ (unitsL e).length ≤ 50 := by decide +kernel
section
variable {P : Program} {w : World} {K : PySem.W.Frag} {mg : Str → Option Value} {base : Heap} {f f1 f2 f3 f4 f5 C fI fM : Addr} {fd fd1 fd2 fd3 fd4 fd5 fdI : FuncData}
def spChkN (K : PySem.W.Frag) : Sp := fun vs H Q _ => ∃ (e : Int) (v : V) (n : Num), vs = [.int e, v] ∧ 1 ≤ e ∧ e ≤ 60 ∧ NumAt K H v n ∧ NumOk e n ∧ ∀ H', Same H H' → Q .non H'
theorem scChkN : FnScope ["order", "number"] ["order", "number"] (defScope sChkN) := ⟨rfl, rfl, rfl, by decide +kernel, rfl, by decide +kernel, by decide +kernel⟩
theorem ok_chkN (F : FnP K "check_number" sChkN f fd) (F1 : FnP K "is_number" sIsNum f1 fd1) (g1 : mg "is_number" = some (.ref f1)) (G1 : FnOk P w K mg base CX0 4 f1 fd1 ["order", "thing"] (spIsNum K (.bl true))) : FnOk P w K mg base CX0 5 f fd ["order", "number"] (spChkN K) := by
  have b1 : Binds K fd1 ["order", "thing"] [] := F1.bindsN fun _ _ _ _ _ _ us hl => match us, hl with | [_, _], _ => rfl
  refine F.ok scChkN (fun vs H Q E h => ?_) (fun cdv A outer s H vs Q E hr h => ?_)
  · obtain ⟨e, v, n, rfl, _⟩ := h
    rfl
  · obtain ⟨e, v, n, rfl, h1, h2, hv, ok, k⟩ := h
    refine ⟨_, PSs.nox (pss_one (ps_if (pt_not (pt_val (pe_call G1 hr rfl g1 F1.kp b1 .nil pass0 (pa_cons (pv 0) (pa_cons (pv 1) pa_nil))))) (pss_one ps_never) pss_nil)), ?_⟩
    exact ⟨_, rfl, _, rfl, e, _, n, rfl, h1, h2, hv, ok, fun H1 s1 => ⟨_, rfl, iteF (k H1 s1)⟩⟩
def spProd (K : PySem.W.Frag) : Sp := fun vs H Q _ => ∃ (e : Int) (v u : V) (a b : Num), vs = [.int e, v, u] ∧ e ∈ ER ∧ NumAt K H v a ∧ NumAt K H u b ∧ a.1.length = (unitsL e).length ∧ b.1.length = (unitsL e).length ∧ 1 ≤ a.2 ∧ a.2 ≤ 1000 ∧ 1 ≤ b.2 ∧ b.2 ≤ 1000 ∧ ((∀ t ∈ a.1, -(2 ^ 64) < t ∧ t < 2 ^ 64) ∨ ∀ t ∈ b.1, -(2 ^ 64) < t ∧ t < 2 ^ 64) ∧
  ∀ v' H', Same H H' → NumAt K H' v' (prodL e a b) → Q v' H'
abbrev prN : List Str := ["order", "one", "other", "ones", "bottom", "others", "other_bottom"]
theorem scProd : FnScope prN ["order", "one", "other"] (defScope sProd) := ⟨rfl, rfl, rfl, by decide +kernel, rfl, by decide +kernel, by decide +kernel⟩
theorem ok_prod (F : FnP K "_product" sProd f fd) (F1 : FnP K "multiplied" sMulP f1 fd1) (g1 : mg "multiplied" = some (.ref f1)) (G1 : FnOk P w K mg base CX0 3 f1 fd1 ["ones", "others", "polynomial"] (spMulP K)) (F2 : FnP K "polynomial_of" sPoly f2 fd2) (g2 : mg "polynomial_of" = some (.ref f2)) (G2 : FnOk P w K mg base CX0 2 f2 fd2 ["order"] (spPoly K))
    (F3 : FnP K "lowered" sLow f3 fd3) (g3 : mg "lowered" = some (.ref f3)) (G3 : FnOk P w K mg base CX0 1 f3 fd3 ["tops", "bottom"] (spLow K)) : FnOk P w K mg base CX0 4 f fd ["order", "one", "other"] (spProd K) := by
  have b1 : Binds K fd1 ["ones", "others", "polynomial"] [] := F1.bindsN fun _ _ _ _ _ _ us hl => match us, hl with | [_, _, _], _ => rfl
  have b2 : Binds K fd2 ["order"] [] := F2.bindsN fun _ _ _ _ _ _ us hl => match us, hl with | [_], _ => rfl
  have b3 : Binds K fd3 ["tops", "bottom"] [] := F3.bindsN fun _ _ _ _ _ _ us hl => match us, hl with | [_, _], _ => rfl
  refine F.ok scProd (fun vs H Q E h => ?_) (fun cdv A outer s H vs Q E hr h => ?_)
  · obtain ⟨e, v, u, a, b, rfl, _⟩ := h
    rfl
  · obtain ⟨e, v, u, a, b, rfl, he, hv, hu, la, lb, a1, a2, c1, c2, bb, k⟩ := h
    refine ⟨_, PSs.nox (pss_cons (ps_asg (pv 1) (pg_tup rfl (pgs_cons (pg_name (i := 3) scProd.nd rfl (Or.inl rfl)) (pgs_cons (pg_name (i := 4) scProd.nd rfl (Or.inl rfl)) pgs_nil))))
      (pss_cons (ps_asg (pv 2) (pg_tup rfl (pgs_cons (pg_name (i := 5) scProd.nd rfl (Or.inl rfl)) (pgs_cons (pg_name (i := 6) scProd.nd rfl (Or.inl rfl)) pgs_nil))))
      (pss_one (ps_ret (pe_call G3 (hr.mono (by decide)) rfl g3 F3.kp b3 .nil pass0 (pa_cons (pe_call G1 hr rfl g1 F1.kp b1 .nil pass0 (pa_cons (pv 3) (pa_cons (pv 5) (pa_cons (pe_call G2 (hr.mono (by decide)) rfl g2 F2.kp b2 .nil pass0 (pa_cons (pv 0) pa_nil)) pa_nil)))) (pa_cons (pe_op op_mul (pv 4) (pv 6)) pa_nil))))))), ?_⟩
    obtain ⟨p, t, rfl, hp, ht⟩ := hv
    obtain ⟨p2, t2, rfl, hp2, ht2⟩ := hu
    have ep := er_poly e he
    have eb := er_bd e he
    have eu := er_units e he
    refine ⟨_, rfl, p, _, rfl, hp, rfl, _, _, rfl, _, _, rfl, rfl, ?_⟩
    refine ⟨_, rfl, p2, _, rfl, hp2, rfl, _, _, rfl, _, _, rfl, rfl, ?_⟩
    refine ⟨_, rfl, _, rfl, _, rfl, e, rfl, he, fun po H1 s1 npo h1 => ?_⟩
    refine ⟨t, t2, po, a.1, b.1, polyL e, rfl, s1.tup ht, s1.tup ht2, SqT.of h1, ep.1, by omega, ep.2.2, by omega, by omega, by omega, by omega, bb, fun m H2 s2 nm h2 => ?_⟩
    have q1 : 1 * 1 ≤ a.2 * b.2 := Int.mul_le_mul a1 c1 (by decide) (by omega)
    have q2 : a.2 * b.2 ≤ 1000 * 1000 := Int.mul_le_mul a2 c2 (by omega) (by decide)
    refine ⟨_, rfl, _, rfl, _, _, rfl, rfl, Or.inl ⟨by omega, by omega⟩, m, mulL a.1 b.1 (polyL e), a.2 * b.2, rfl, .inr (SqT.of h2), by omega, by omega, ?_, fun v' H3 s3 hv' => ?_⟩
    · unfold mulL
      rw [redL_len (by omega)]
      omega
    · exact k v' H3 ((s1.trans s2).trans s3) hv'
end
end K45

/-! Numbers exchanged. -/
namespace K45
open PySem PySem.Spec PyProof.Rows L2
def sprGo (e j : Int) (tops : List Int) : Nat → List Int
  | 0 => List.replicate e.toNat 0
  | k + 1 => stepT e (sprGo e j tops k) ((k : Int) * j) (tops.getD k 0)
theorem sprGo_len (e j : Int) (tops : List Int) : ∀ k, (sprGo e j tops k).length = e.toNat
  | 0 => by simp [sprGo]
  | k + 1 => by
    show (List.set _ _ _).length = _
    rw [List.length_set, sprGo_len e j tops k]
def exT (e j : Int) (tops : List Int) : List Int := redL (sprGo e j tops tops.length) (polyL e)
def exL (e : Int) (n : Num) (j : Int) : Num := (exT e j n.1, n.2)
section
variable {P : Program} {w : World} {K : PySem.W.Frag} {mg : Str → Option Value} {base : Heap} {f f1 f2 f3 f4 f5 C fI fM : Addr} {fd fd1 fd2 fd3 fd4 fd5 fdI : FuncData}
def spSpread (K : PySem.W.Frag) : Sp := fun vs H Q _ => ∃ (a : Addr) (tops : List Int) (e j : Int), vs = [.ref a, .int e, .int j] ∧ SqT K H a (tops.map V.int) ∧ 1 ≤ e ∧ e ≤ 60 ∧ -1000 ≤ j ∧ j ≤ 1000 ∧ tops.length ≤ 1000 ∧ ∀ t H', Same H H' → H t = none → H' t = some (.lst ((sprGo e j tops tops.length).map V.int)) → Q (.ref t) H'
abbrev sprN : List Str := ["tops", "many", "step", "items", "k", "top"]
theorem scSpread : FnScope sprN ["tops", "many", "step"] (defScope sSpread) := ⟨rfl, rfl, rfl, by decide +kernel, rfl, by decide +kernel, by decide +kernel⟩
theorem ok_spread (F : FnP K "spread" sSpread f fd) (B : Bl mg) : FnOk P w K mg base CX0 1 f fd ["tops", "many", "step"] (spSpread K) := by
  refine F.ok scSpread (fun vs H Q E h => ?_) (fun cdv A outer s H vs Q E hr h => ?_)
  · obtain ⟨a, tops, e, j, rfl, _⟩ := h
    rfl
  · obtain ⟨a, tops, e, j, rfl, ha, e1, e2, j1, j2, hl, k⟩ := h
    refine ⟨_, PSs.nox (pss_cons (ps_set (i := 3) scSpread.nd rfl (Or.inl rfl) (pe_op op_rep (pe_lst (pa_cons pe_int pa_nil)) (pv 1)))
      (pss_cons (ps_for PassesOwn.never rfl (pi_enumT (by rfl) (B "enumerate" (by decide +kernel)) (pa_cons (pv 0) pa_nil)) (pg_tup rfl (pgs_cons (pg_name (i := 4) scSpread.nd rfl (Or.inl rfl)) (pgs_cons (pg_name (i := 5) scSpread.nd rfl (Or.inl rfl)) pgs_nil)))
        (pss_one (ps_augS (pv 3) (pe_op op_mod (pe_op op_mul (pv 4) (pv 2)) (pv 1)) get_list (pv 5) ip_add set_list)))
      (pss_one (ps_ret (pv 3))))), ?_⟩
    refine ⟨by show 1 ≤ sizeLine; decide, fun z hz => ?_⟩
    have sz : Same H (upd H z (.lst [.int 0])) := same_upd hz
    refine ⟨_, rfl, z, _, _, rfl, rfl, upd_same, by omega, by omega, sl_1000 (by simp; omega), fun D hD => ?_⟩
    rw [rep_flat]
    have nD : H D = none := sz.free hD
    have s1 := same_new (o := .lst (List.replicate e.toNat (V.int 0))) sz hD
    refine ⟨_, rfl, a, tops.map V.int, rfl, s1.tup ha, ?_⟩
    refine for_it (walk_enumT (K := K) (a := a) (xs := tops.map V.int)) (fun i σ H2 => ∃ u4 u5, σ = [some (.ref a), some (.int e), some (.int j), some (.ref D), u4, u5] ∧ Same H H2 ∧ H2 D = some (.lst ((sprGo e j tops i).map V.int))) ⟨none, none, rfl, s1, ?_⟩ (fun i σ H2 _ ⟨_, _, _, s2, _⟩ => s2.tup ha) ?_ ?_
    · rw [upd_same]
      simp [sprGo]
    · rintro i x σ H2 H3 hi ⟨u4, u5, rfl, s2, h2⟩ ⟨T, c1, y, rfl, hT, rfl, ec, ey⟩
      obtain ⟨tv, rfl, htv⟩ := getI ey
      obtain rfl := Option.some.inj ec
      rw [List.length_map] at hi
      have s3 : Same H (upd H2 T (.tup [.int (i : Int), .int tv])) := same_new s2 hT
      have h3 : upd H2 T (.tup [.int (i : Int), .int tv]) D = some (.lst ((sprGo e j tops i).map V.int)) := by rw [upd_ne (ne_of_none h2 hT)]; exact h2
      have al := sprGo_len e j tops i
      have m0 := Int.emod_nonneg ((i : Int) * j) (show e ≠ 0 by omega)
      have m1 := Int.emod_lt_of_pos ((i : Int) * j) (show 0 < e by omega)
      obtain ⟨n, hn⟩ := Int.eq_ofNat_of_zero_le m0
      refine ⟨T, _, rfl, SqT.of upd_same, rfl, _, _, rfl, _, _, rfl, rfl, ?_⟩
      refine ⟨_, rfl, _, rfl, _, rfl, _, _, rfl, rfl, Or.inr ⟨by omega, by omega⟩, _, rfl, _, _, rfl, rfl, by omega, ?_⟩
      refine ⟨D, _, n, _, rfl, congrArg V.int hn, SqL.of h3, getD_of (by rw [al]; omega), _, rfl, _, _, rfl, rfl, D, _, _, n, rfl, rfl, h3, ?_, some (.int (i : Int)), some (.int tv), rfl, same_at s3 nD, ?_⟩
      · rw [hn, List.length_map, al]
        exact ixN_nat (by omega)
      · rw [upd_same]
        show _ = some (HO.lst ((stepT e (sprGo e j tops i) ((i : Int) * j) (tops.getD i 0)).map V.int))
        have e5 : tops.getD i 0 = tv := by rw [List.getD_eq_getElem?_getD, htv]; rfl
        unfold stepT
        rw [e5, hn, Int.toNat_natCast, List.map_set]
    · rintro σ H2 ⟨u4, u5, rfl, s2, h2⟩
      rw [List.length_map] at h2
      exact ⟨_, rfl, k D H2 s2 nD h2⟩
def spExT (K : PySem.W.Frag) : Sp := fun vs H Q _ => ∃ (a c : Addr) (tops : List Int) (e j : Int), vs = [.ref a, .int e, .int j, .ref c] ∧ SqT K H a (tops.map V.int) ∧ SqT K H c ((polyL e).map V.int) ∧ e ∈ ER ∧ -1000 ≤ j ∧ j ≤ 1000 ∧ tops.length ≤ 1000 ∧ ∀ t H', Same H H' → H t = none → H' t = some (.tup ((exT e j tops).map V.int)) → Q (.ref t) H'
theorem scExT : FnScope ["tops", "order", "j", "polynomial"] ["tops", "order", "j", "polynomial"] (defScope sExT) := ⟨rfl, rfl, rfl, by decide +kernel, rfl, by decide +kernel, by decide +kernel⟩
theorem ok_exT (F : FnP K "exchanged_tops" sExT f fd) (B : Bl mg) (F1 : FnP K "spread" sSpread f1 fd1) (g1 : mg "spread" = some (.ref f1)) (F2 : FnP K "reduced" sRed f2 fd2) (g2 : mg "reduced" = some (.ref f2)) (G2 : FnOk P w K mg base CX0 2 f2 fd2 ["items", "polynomial"] (spRed K)) : FnOk P w K mg base CX0 3 f fd ["tops", "order", "j", "polynomial"] (spExT K) := by
  have G1 : FnOk P w K mg base CX0 1 f1 fd1 ["tops", "many", "step"] (spSpread K) := ok_spread F1 B
  have b1 : Binds K fd1 ["tops", "many", "step"] [] := F1.bindsN fun _ _ _ _ _ _ us hl => match us, hl with | [_, _, _], _ => rfl
  have b2 : Binds K fd2 ["items", "polynomial"] [] := F2.bindsN fun _ _ _ _ _ _ us hl => match us, hl with | [_, _], _ => rfl
  refine F.ok scExT (fun vs H Q E h => ?_) (fun cdv A outer s H vs Q E hr h => ?_)
  · obtain ⟨a, c, tops, e, j, rfl, _⟩ := h
    rfl
  · obtain ⟨a, c, tops, e, j, rfl, ha, hc, he, j1, j2, hl, k⟩ := h
    refine ⟨_, PSs.nox (pss_one (ps_ret (pe_call G2 hr rfl g2 F2.kp b2 .nil pass0 (pa_cons (pe_call G1 (hr.mono (by decide)) rfl g1 F1.kp b1 .nil pass0 (pa_cons (pv 0) (pa_cons (pv 1) (pa_cons (pv 2) pa_nil)))) (pa_cons (pv 3) pa_nil))))), ?_⟩
    have ep := er_poly e he
    have eb := er_bd e he
    have al := sprGo_len e j tops tops.length
    refine ⟨_, rfl, _, rfl, _, rfl, a, tops, e, j, rfl, ha, by omega, by omega, j1, j2, hl, fun t H1 s1 nt h1 => ?_⟩
    exact ⟨_, rfl, t, c, _, polyL e, rfl, .inl (SqL.of h1), s1.tup hc, ep.1, by omega, by omega, ep.2.2, fun t2 H2 s2 nt2 h2 => k t2 H2 (s1.trans s2) (s1.free nt2) h2⟩
def spExch (K : PySem.W.Frag) : Sp := fun vs H Q _ => ∃ (e j : Int) (v : V) (n : Num), vs = [.int e, v, .int j] ∧ e ∈ ER ∧ NumAt K H v n ∧ NumOk e n ∧ -1000 ≤ j ∧ j ≤ 1000 ∧ gcdI j e = 1 ∧ ∀ v' H', Same H H' → NumAt K H' v' (exL e n j) → Q v' H'
abbrev exN : List Str := ["order", "number", "j", "tops", "bottom"]
end
end K45

/-! Rows turned about. -/
namespace K45
open PySem PySem.Spec PyProof.Rows L2
def trL (r : List Int) (ns : List Num) : List Num := ns.map fun n => exL (ordL r) n (-1)
theorem gcd_m1 (e : Int) : gcdI (-1) e = 1 := by
  unfold gcdI
  simp
section
variable {P : Program} {w : World} {K : PySem.W.Frag} {mg : Str → Option Value} {base : Heap} {f f1 f2 f3 f4 f5 C fI fM : Addr} {fd fd1 fd2 fd3 fd4 fd5 fdI : FuncData}
def spTRow (K : PySem.W.Frag) : Sp := fun vs H Q _ => ∃ (v u : V) (r : List Int) (ns : List Num), vs = [v, u] ∧ TupI K H v r ∧ RowAt K H u ns ∧ r ∈ RR ∧ RowG r ns ∧ ∀ v' H', Same H H' → RowAt K H' v' (trL r ns) → Q v' H'
abbrev trN : List Str := ["rings", "row", "floor", "item"]
end
end K45

/-! Exchanged twice. -/
namespace K45
open PySem PySem.Spec PyProof.Rows L2
/-- the powers turned about, in the tables -/
def exB (t : Int × List Int × List (List Int)) : Bool :=
  (List.range t.1.toNat).all fun a => (List.range (t.2.1.length - 1)).all fun j =>
    decide (sm (t.2.1.length - 1) (fun k => (t.2.2.getD k []).getD a 0 * (t.2.2.getD j []).getD (((k : Int) * -1) % t.1).toNat 0) = (t.2.2.getD j []).getD (((a : Int) * -1) % t.1).toNat 0)
theorem ex_ok : ∀ t ∈ tabs, exB t = true := by decide +kernel
theorem dotc_spr {c : Nat → Int} {e : Int} (he : 0 < e) (j : Int) (tops : List Int) : ∀ k, dotc c (sprGo e j tops k) = sm k (fun m => tops.getD m 0 * c (((m : Int) * j) % e).toNat)
  | 0 => dotc_zero c _
  | k + 1 => by
    show dotc c (stepT e (sprGo e j tops k) ((k : Int) * j) (tops.getD k 0)) = _
    rw [dotc_step he (sprGo_len e j tops k), dotc_spr he j tops k]
    rfl
theorem exT_len {e j : Int} {tops : List Int} (h : 1 ≤ (polyL e).length) : (exT e j tops).length = (polyL e).length - 1 := redL_len' h
theorem exT_co {e j : Int} (he : 0 < e) (hp : 1 ≤ (polyL e).length) {tops : List Int} {i : Nat} (hi : i < (polyL e).length - 1) :
    (exT e j tops).getD i 0 = sm tops.length (fun m => tops.getD m 0 * Tz ((polyL e).length - 1) (polyL e) i (((m : Int) * j) % e).toNat) := by
  unfold exT
  rw [red_ph hp hi]
  exact dotc_spr he j tops tops.length
/-- exchanged twice -/
theorem exT_exT {e : Int} (h : e ∈ ER) {v : List Int} (hl : v.length = (polyL e).length - 1) : exT e (-1) (exT e (-1) v) = v := by
  obtain ⟨t, ht, et⟩ := er_tab e h
  have ok := tabs_ok t ht
  have sm0 := tab_sm t ht
  have eb := er_bd e h
  have hp : 2 ≤ (polyL e).length := by rw [← et, ok.1]; exact sm0.2.1
  have he : 0 < e := by omega
  have l1 := exT_len (e := e) (j := -1) (tops := v) (by omega)
  refine ext_getD (by rw [exT_len (by omega), hl]) fun i hi => ?_
  rw [exT_len (by omega)] at hi
  rw [exT_co he (by omega) hi, l1]
  have e1 : sm ((polyL e).length - 1) (fun m => (exT e (-1) v).getD m 0 * Tz ((polyL e).length - 1) (polyL e) i (((m : Int) * -1) % e).toNat) =
      sm ((polyL e).length - 1) (fun m => sm v.length (fun k => v.getD k 0 * (Tz ((polyL e).length - 1) (polyL e) m (((k : Int) * -1) % e).toNat * Tz ((polyL e).length - 1) (polyL e) i (((m : Int) * -1) % e).toNat))) := by
    refine sm_congr fun m hm => ?_
    rw [exT_co he (by omega) hm, ← sm_mulR]
    exact sm_congr fun k _ => Int.mul_assoc _ _ _
  rw [e1, sm_swap]
  have key : ∀ k, k < v.length → sm ((polyL e).length - 1) (fun m => v.getD k 0 * (Tz ((polyL e).length - 1) (polyL e) m (((k : Int) * -1) % e).toNat * Tz ((polyL e).length - 1) (polyL e) i (((m : Int) * -1) % e).toNat)) = (if k = i then v.getD k 0 else 0) := by
    intro k hk
    rw [sm_mul]
    have ep : polyL e = t.2.1 := by rw [← et]; exact ok.1
    have hle : (polyL e).length ≤ e.toNat := by rw [ep, ← et]; exact sm0.2.2.2.1
    have a0 := Int.emod_nonneg ((k : Int) * -1) (show e ≠ 0 by omega)
    have a1 := Int.emod_lt_of_pos ((k : Int) * -1) he
    generalize ha : (((k : Int) * -1) % e).toNat = a
    have hA : ((a : Nat) : Int) = ((k : Int) * -1) % e := by omega
    have ha2 : a < e.toNat := by omega
    have q := ex_ok t ht
    unfold exB at q
    rw [List.all_eq_true] at q
    have q1 := q a (List.mem_range.mpr (by rw [et]; exact ha2))
    rw [List.all_eq_true] at q1
    have q2 := of_decide_eq_true (q1 i (List.mem_range.mpr (by rw [← ep]; exact hi)))
    rw [et] at q2
    have q3 : sm ((polyL e).length - 1) (fun m => Tz ((polyL e).length - 1) (polyL e) m a * Tz ((polyL e).length - 1) (polyL e) i (((m : Int) * -1) % e).toNat) = Tz ((polyL e).length - 1) (polyL e) i (((a : Int) * -1) % e).toNat := by
      have tc : ∀ {j b : Nat}, j < (polyL e).length - 1 → b < e.toNat → (t.2.2.getD j []).getD b 0 = Tz ((polyL e).length - 1) (polyL e) j b := by
        intro j b hj hb
        rw [ep] at hj ⊢
        exact tab_col ht hj (by rw [et]; omega)
      have md : ∀ x : Int, (x % e).toNat < e.toNat := fun x => by
        have := Int.emod_nonneg x (show e ≠ 0 by omega)
        have := Int.emod_lt_of_pos x he
        omega
      rw [← tc hi (md _), ← q2, ← ep]
      exact sm_congr fun m hm => by rw [tc hm ha2, tc hi (md _)]
    have hb : (((a : Int) * -1) % e).toNat = k := by
      rw [hA, Int.mul_neg, Int.mul_one, Int.mul_neg, Int.mul_one]
      have : (-(-(k : Int) % e)) % e = (k : Int) % e := by
        rw [Int.neg_emod_eq_sub_emod]
        rw [Int.sub_emod_emod]
        rw [Int.sub_neg]
        rw [Int.add_comm, Int.add_emod_right]
      rw [this, Int.emod_eq_of_lt (by omega) (by omega)]
      omega
    rw [q3, hb, T_lo (by omega)]
    split <;> simp
  rw [sm_congr key, sm_delta, if_pos (by omega)]
end K45

/-! Exchanged numbers stay in lowest terms. -/
namespace K45
open PySem PySem.Spec PyProof.Rows L2
theorem lowC_gr {d : Int} : ∀ (tops : List Int) (b : Int), d ∣ b → (∀ t ∈ tops, d ∣ t) → d ∣ lowC tops b
  | [], _, h, _ => h
  | t :: ts, b, h, k => by
    show d ∣ lowC ts (gcdI b t)
    refine lowC_gr ts _ ?_ fun u hu => k u (List.mem_cons_of_mem _ hu)
    unfold gcdI
    exact Int.dvd_coe_gcd h (k t List.mem_cons_self)
theorem sm_dvd {d : Int} {f : Nat → Int} : ∀ n : Nat, (∀ i, i < n → d ∣ f i) → d ∣ sm n f
  | 0, _ => Int.dvd_zero d
  | n + 1, h => Int.dvd_add (sm_dvd n fun i hi => h i (by omega)) (h n (by omega))
theorem dvd_getD {d : Int} {v : List Int} (h : ∀ t ∈ v, d ∣ t) (k : Nat) : d ∣ v.getD k 0 := by
  rw [List.getD_eq_getElem?_getD]
  cases q : v[k]? with
  | none => exact Int.dvd_zero d
  | some x => exact h x (List.mem_of_getElem? q)
theorem er_p2 : ∀ e ∈ ER, 2 ≤ (polyL e).length := fun e h => (er_poly e h).1
theorem exT_dvd {e d : Int} (h : e ∈ ER) {v : List Int} (hv : ∀ t ∈ v, d ∣ t) : ∀ t ∈ exT e (-1) v, d ∣ t := by
  have hp := er_p2 e h
  have eb := er_bd e h
  intro t ht
  obtain ⟨i, hi, rfl⟩ := List.getElem_of_mem ht
  have e1 : (exT e (-1) v)[i] = (exT e (-1) v).getD i 0 := by rw [List.getD_eq_getElem?_getD, List.getElem?_eq_getElem hi]; rfl
  rw [exT_len (by omega)] at hi
  rw [e1, exT_co (by omega) (by omega) hi]
  exact sm_dvd _ fun k _ => Int.dvd_mul_of_dvd_left (dvd_getD hv k)
theorem low_one_of {n : Num} (hp : 1 ≤ n.2) (hl : lowL n.1 n.2 = n) : lowC n.1 n.2 = 1 := by
  have g := lowC_pos n.1 n.2 hp
  have d := (lowC_dvd n.1 n.2).1
  have e : n.2 / lowC n.1 n.2 = n.2 := congrArg Prod.snd hl
  have m := Int.ediv_mul_cancel d
  rw [e] at m
  exact icancel hp (by rw [m, Int.mul_one])
/-- an exchanged number is in lowest terms -/
theorem ex_low {e : Int} (h : e ∈ ER) {n : Num} (c : NumC ((polyL e).length - 1) n) : lowL (exT e (-1) n.1) n.2 = exL e n (-1) := by
  have g1 := low_one_of c.pos c.low
  have gp := lowC_pos (exT e (-1) n.1) n.2 c.pos
  have gd := lowC_dvd (exT e (-1) n.1) n.2
  have back := exT_dvd h gd.2
  rw [exT_exT h c.len] at back
  have q := lowC_gr n.1 n.2 gd.1 back
  rw [g1] at q
  have g : lowC (exT e (-1) n.1) n.2 = 1 := Int.le_antisymm (Int.le_of_dvd (by decide) q) gp
  unfold lowL exL
  rw [g, Int.ediv_one]
  refine Prod.ext ?_ rfl
  conv => rhs; rw [← List.map_id (exT e (-1) n.1)]
  exact List.map_congr_left fun t _ => Int.ediv_one t
theorem numC_ex {e : Int} (h : e ∈ ER) {n : Num} (c : NumC ((polyL e).length - 1) n) : NumC ((polyL e).length - 1) (exL e n (-1)) :=
  ⟨exT_len (by have := er_p2 e h; omega), c.pos, by rw [← ex_low h c, low_low c.pos]⟩
theorem ex_ex {e : Int} (h : e ∈ ER) {n : Num} (c : NumC ((polyL e).length - 1) n) : exL e (exL e n (-1)) (-1) = n := by
  show (exT e (-1) (exT e (-1) n.1), n.2) = n
  rw [exT_exT h c.len]
/-- a row turned about twice -/
theorem tr_tr {r : List Int} (hr : r ∈ RR) {ns : List Num} (c : RowC r ns) : trL r (trL r ns) = ns := by
  unfold trL
  rw [List.map_map]
  conv => rhs; rw [← List.map_id ns]
  exact List.map_congr_left fun n hn => ex_ex (ord_er r hr) (c.num n hn)
theorem rowC_tr {r : List Int} (hr : r ∈ RR) {ns : List Num} (c : RowC r ns) : RowC r (trL r ns) := by
  refine ⟨by unfold trL; rw [List.length_map, c.len], fun n hn => ?_⟩
  obtain ⟨m, hm, rfl⟩ := List.mem_map.mp hn
  exact numC_ex (ord_er r hr) (c.num m hm)
end K45

/-! Places added, place_sum, place_times, pairing. -/
namespace K45
open PySem PySem.Spec PyProof.Rows L2
def sumP (r x y : List Int) : List Int := (List.range r.length).map fun k => (x.getD k 0 + y.getD k 0) % r.getD k 0
section
variable {P : Program} {w : World} {K : PySem.W.Frag} {mg : Str → Option Value} {base : Heap} {f f1 f2 f3 f4 f5 C fI fM : Addr} {fd fd1 fd2 fd3 fd4 fd5 fdI : FuncData}
def spAdd (K : PySem.W.Frag) : Sp := fun vs H Q _ => ∃ (v u z : V) (r p q : List Int), vs = [v, u, z] ∧ TupI K H v r ∧ TupI K H u p ∧ TupI K H z q ∧ r ∈ RR ∧ p.length = r.length ∧ q.length = r.length ∧ ∀ t H', Same H H' → H t = none → H' t = some (.tup ((sumP r p q).map V.int)) → Q (.ref t) H'
end
end K45

/-! A dict comprehension whose keys are tuples of ints (after HandS.DictComp). -/
namespace K45
open PySem PySem.Spec PyProof.Rows L2
theorem d_dictSetT {X : Cx} {pins : List (Addr × Obj)} {σ : L2.St} {H : Hp} {s : Shared} {E : Value → Shared → Prop} {D kb : Addr} {kvs : List (List Key × V)} {k : List Key} {v : V} {u r : Value} {Q : Unit → Shared → Prop} (hu : X.A.units + 1 < cLine) (I : Inv X pins σ H s) (hD : H D = some (.dT kvs)) (eb : H kb = some (.tup (k.map kV))) (hz : kvs.length < sizeLine)
    (ry : RelV (.ref kb) u) (rv : RelV v r) (h : ∀ s', Inv X pins σ (upd H D (.dT (putK kvs k v))) s' → Q () s') : wpAny (model X.prog X.w) X.A (dictSet D u r) Q E s := by
  cases (show u = Value.ref kb from ry)
  obtain ⟨z, hd, xs, rel, dd⟩ := dt_of I.hok hD
  have hzv : xs.length ≤ sizeLine := by rw [← Paired.length rel]; exact z
  have hl : (putK kvs k v).length ≤ sizeLine := by have := length_putK kvs k v; omega
  refine wpAny_dictSet_heap (hsz := hzv) (show X.A.units < cLine from Nat.lt_of_succ_lt hu) (key_of I.hok eb) dd fun h' dd' hs => h _ ?_
  obtain ⟨q, es, ep, hq, h2, h3, h4, _, h5⟩ := dd'
  refine d_write I (by rw [hD]; exact True.intro) hs ⟨q, hq⟩ ⟨hl, hd, _, (rel.put k eb rv).keeps fun c ys ec => ?_, q, es, ep, hq, h2, h3, h4, h5⟩
  rw [upd_ne (ne_of ec hD (fun z => nomatch z))]
  exact ec
section
variable {X : Cx}
/-- {k: v for target in iter if ..}, keys tuples of ints and texts: D the new dict -/
def tDcT (wi : TI) (g : TG) (tt : TT) (tk tv : TE) (vs : List Nat) : TE := fun σ H Q => wi σ H fun J H1 => ∀ D, H1 D = none → ∃ W : Nat → Nat → Hp → Prop, (∃ m, W 0 m (upd H1 D (.dT []))) ∧ ∀ i m H, W i m H →
  (J.stop i H ∧ Q (.ref D) H) ∨ (J.go i H ∧ ∃ Nx : Hp → Prop, (∀ H', Nx H' → ∃ m', m' < m ∧ W (i + 1) m' H') ∧ ∀ x H', J.yld i H x H' → g x (wipe σ vs) H' fun σ2 H2 => wipe σ2 vs = wipe σ vs ∧ tt σ2 H2 fun b H3 =>
    if b = true then tk σ2 H3 fun y H4 => tv σ2 H4 fun z H5 => ∃ kvs k b, y = .ref b ∧ H5 b = some (.tup (k.map kV)) ∧ H5 D = some (.dT kvs) ∧ kvs.length < sizeLine ∧ Nx (upd H5 D (.dT (putK kvs k z))) else Nx H3)
theorem dcT_core {pins : List (Addr × Obj)} {s : Shared} {σ : L2.St} {H : Hp} {Q : VK} {kx vx tg iter : Expr} {ifs : List Expr} {scope : Scope} {own : List (Str × Nat)} {pos pos' : Pos} {wi : TI} {g : L2.TG} {tt : L2.TT} {tk tv : TE} {use : Option (Value → Sem Unit)} {Qf : Value → Shared → Prop}
    (hc : X.calm = true) (hu : X.A.units + 1 < cLine) (hN : X.N.Nodup) (I : Inv X pins σ H s) (hi : PI X tg iter wi) (ok : BlkOk X.N X.env.scope scope own)
    (hg : ∀ (s : Shared) (H : Hp) (C : Addr) (cl : List (Str × Addr)) (fp : List Addr), PG (X.blk s H scope (compEnvC scope cl C X.env) fp) tg g) (ht : ∀ (s : Shared) (H : Hp) (C : Addr) (cl : List (Str × Addr)) (fp : List Addr), PTs (X.blk s H scope (compEnvC scope cl C X.env) fp) ifs tt)
    (hk : ∀ (s : Shared) (H : Hp) (C : Addr) (cl : List (Str × Addr)) (fp : List Addr), PE (X.blk s H scope (compEnvC scope cl C X.env) fp) kx tk)
    (he : ∀ (s : Shared) (H : Hp) (C : Addr) (cl : List (Str × Addr)) (fp : List Addr), PE (X.blk s H scope (compEnvC scope cl C X.env) fp) vx tv) (hs : ∀ x, foldedSetIterable iter X.env x = pure x)
    (h : tDcT wi g tt tk tv (own.map (·.2)) σ H Q)
    (hRR : ∀ D C s' m H', Inv X pins σ H' s' → Q (.ref D) H' → s'.heap.Ns C m → FpOk X pins H' C → compPost (model X.prog X.w) X.A X.xe use Qf (.ref D) C (.ok .next) s') :
    wpAny (model X.prog X.w) X.A (comprehension (.DictComp kx vx [⟨tg, iter, ifs, 0⟩] scope pos) scope X.env pos' newDict false (eval iter X.env) use) Qf X.xe s := by
  have hfree : ∀ y ∈ scope.names, y.2 = .free → ∃ c, X.env.cells.lookup y.1 = some c := fun y hy e => by
    rcases ok.free y hy e with k | k
    · exact I.ok.has _ (.inl k)
    · exact I.ok.has _ (.inr k)
  refine wpAny_comprehension_free (use := use) rfl hs (closure_ok hfree) ok.kind (fun y hy e => by rw [ok.uniq y hy, e])
    (thn (hi.run pins s σ H _ I h) fun xv s1 hx => thn hx fun itv s2 h2 => ?_)
  obtain ⟨it, fp, tn, J, H2, e, I2, T, st2, f2, q⟩ := h2
  subst e
  refine wpAny_newObj_type (newEnv_comp ?_)
  generalize hD : s2.heap.objs.size = D
  have hDn : H2 D = none := I2.hok.fresh (Nat.le_of_eq hD)
  obtain ⟨W, ⟨m0, w0⟩, turn⟩ := q D hDn
  -- the new list
  generalize hs3 : ({ s2 with heap := s2.heap.push { cls := .type "dict", data := .dict #[] } } : Shared) = s3
  have I3 : Inv X pins σ (upd H2 D (.dT [])) s3 := by
    rw [← hs3]
    refine I2.laid (t' := s2.toks) (fun b o e => Heap.get?_push_of_some _ e) (Nat.le_of_eq hD) ?_
    rw [← hD]
    exact dt_empty s2.heap I2.big
  have h3 : s3.heap = s2.heap.push { cls := .type "dict", data := .dict #[] } := by rw [← hs3]
  have sz : ∀ b ∈ fp, b < s2.heap.objs.size := fun b hb => by
    obtain ⟨o, e, _⟩ := T.obj _ _ st2 b hb
    exact Heap.lt_size e
  have f3 : ∀ b ∈ fp, FpOk X pins (upd H2 D (.dT [])) b ∧ b < s3.heap.objs.size := fun b hb => by
    have hlt := sz b hb
    refine ⟨⟨?_, (f2 b hb).2⟩, by rw [h3, Heap.size_push]; exact Nat.lt_succ_of_lt hlt⟩
    rw [upd_ne (by rw [← hD]; exact Nat.ne_of_lt hlt)]
    exact (f2 b hb).1
  have st3 : tn 0 s3.heap := T.keep _ _ _ st2 fun b _ o e => by rw [h3]; exact Heap.get?_push_of_some _ e
  have I4 := block_start I3 ok hN f3
  have pg := hg s3 (upd H2 D (.dT [])) s3.heap.objs.size (cellsFrom (s3.heap.objs.size + 1) scope.names (cloFrom X.env.cells scope.names [])) fp
  have pt := ht s3 (upd H2 D (.dT [])) s3.heap.objs.size (cellsFrom (s3.heap.objs.size + 1) scope.names (cloFrom X.env.cells scope.names [])) fp
  have pk := hk s3 (upd H2 D (.dT [])) s3.heap.objs.size (cellsFrom (s3.heap.objs.size + 1) scope.names (cloFrom X.env.cells scope.names [])) fp
  have pe := he s3 (upd H2 D (.dT [])) s3.heap.objs.size (cellsFrom (s3.heap.objs.size + 1) scope.names (cloFrom X.env.cells scope.names [])) fp
  show codeAny _ _ (.compStart (.DictComp kx vx [⟨tg, iter, ifs, 0⟩] scope pos) 0 (.ref it) (.ref D) (compEnvC scope (cellsFrom (s3.heap.objs.size + 1) scope.names (cloFrom X.env.cells scope.names [])) s3.heap.objs.size X.env)) (compPost (model X.prog X.w) X.A X.xe use Qf (.ref D) s3.heap.objs.size) { s3 with heap := pushCells (s3.heap.push { cls := .type "dict", data := .dict #[] }) scope.names }
  have nfp : ∀ b ∈ fp, (upd H2 D (.dT [])) b = none := fun b hb => (f3 b hb).1.1
  generalize hce : compEnvC scope (cellsFrom (s3.heap.objs.size + 1) scope.names (cloFrom X.env.cells scope.names [])) s3.heap.objs.size X.env = ce at I4 pg pt pk pe ⊢
  have cL : ce.locals = s3.heap.objs.size := by subst hce; rfl
  generalize hH3 : upd H2 D (.dT []) = H3 at I3 I4 pg pt pk pe w0 nfp f3
  generalize hs4 : ({ s3 with heap := pushCells (s3.heap.push { cls := .type "dict", data := .dict #[] }) scope.names } : Shared) = s4 at I4 ⊢
  have st4 : tn 0 s4.heap := T.keep _ _ _ st3 fun b _ o e => by rw [← hs4]; exact pushCells_keeps _ _ _ _ (Heap.get?_push_of_some _ e)
  have stat : ∀ {σ' : L2.St} {H' : Hp} {s' : Shared}, Inv (X.blk s3 H3 scope ce fp) [] σ' H' s' → (∀ b ∈ fp, H' b = none) → ∀ b ∈ fp, FpOk (X.blk s3 H3 scope ce fp) [] H' b := fun {σ' H' s'} I' hn b hb =>
    ⟨hn b hb, (I'.ok.exf b hb).1, I'.ok.exfs b hb, .inl hb, fun x c e => (I'.ok.exf b hb).2 x c e, fun p hp => absurd (show p ∈ ([] : List (Addr × Obj)) ++ [] from hp) (by simp)⟩
  have loop : codeAny (model X.prog X.w) X.A (.compLoop (.DictComp kx vx [⟨tg, iter, ifs, 0⟩] scope pos) 0 (.ref it) (.ref D) ce) (compPost (model X.prog X.w) X.A X.xe use Qf (.ref D) s3.heap.objs.size) s4 := by
    refine compLoop_anyD (fun n s' => ∃ i H', Inv (X.blk s3 H3 scope ce fp) [] (wipe σ (own.map (·.2))) H' s' ∧ tn i s'.heap ∧ (∀ b ∈ fp, H' b = none) ∧ W i n H') ?_ m0 ⟨0, H3, I4, st4, nfp, w0⟩
    rintro n s5 ⟨i, H5, I5, st5, n5, w5⟩
    rcases turn i n H5 w5 with ⟨stop, qq⟩ | ⟨go, Nx, hNx, step⟩
    · have td := T.done (X.blk s3 H3 scope ce fp) rfl rfl rfl hc i [] s5 _ H5 (fun _ _ => False) I5 (stat I5 n5) st5 stop
      refine thnF td fun r s6 ⟨hr, I6⟩ => ?_
      subst hr
      -- back in the def's context
      have I7 : Inv X pins σ H5 s6 := I3.call' (ch := fp) I6.os I6.base I6.hok I6.bare fun b hb => ⟨(f3 b hb).1.2.2.2.1, (f3 b hb).1.2.1, (f3 b hb).1.2.2.2.2.1, (f3 b hb).1.2.2.2.2.2⟩
      have nC : H5 s3.heap.objs.size = none := by
        have z : H5 ce.locals = none := I6.free
        rw [cL] at z
        exact z
      obtain ⟨m, hn, _⟩ := I6.loc
      have hn : s6.heap.Ns ce.locals m := hn
      rw [cL] at hn
      exact hRR D s3.heap.objs.size s6 m H5 I7 qq hn (I3.fpOk (Nat.le_refl _) nC)
    · have ti := T.item (X.blk s3 H3 scope ce fp) rfl rfl rfl hc i [] s5 _ H5 (fun _ _ => False) I5 (stat I5 n5) st5 go
      refine thnF ti fun r s6 ⟨u, hr, h6⟩ => ?_
      subst hr
      refine thnF h6 fun _ s7 ⟨x, H7, I7, r7, y7, st7, n7⟩ => ?_
      have I7' := I7.pinned (stat I7 n7) (T.obj _ _ st7)
      refine thnF (pg.run _ s7 _ H7 x u _ I7' r7 (step x H7 y7)) fun _ s8 ⟨σ8, H8, I8, hw8, q8⟩ => ?_
      refine thnF (pt.run _ s8 σ8 H8 _ I8 q8) fun b s9 ⟨H9, I9, q9⟩ => ?_
      -- the turn's end
      have fin : ∀ {s' : Shared} {H' : Hp}, Inv (X.blk s3 H3 scope ce fp) ([] ++ pinsAt fp s7.heap) σ8 H' s' → Nx H' → ∃ m, m < n ∧ ∃ i H', Inv (X.blk s3 H3 scope ce fp) [] (wipe σ (own.map (·.2))) H' s' ∧ tn i s'.heap ∧ (∀ b ∈ fp, H' b = none) ∧ W i m H' := fun {s' H'} I' nx => by
        obtain ⟨m', hm, w'⟩ := hNx H' nx
        have pin' : ∀ b ∈ fp, ∀ o, s7.heap.get? b = some o → s'.heap.get? b = some o ∧ H' b = none := fun b hb o e =>
          let z := I'.pin (b, o) (List.mem_append_right _ (List.mem_append_right _ (mem_pinsAt hb e)))
          ⟨z.1, z.2.1⟩
        have hl : (wipe σ (own.map (·.2))).length = σ8.length := by rw [← hw8, wipe_length]
        refine ⟨m', hm, i + 1, H', (I'.unpinned (pins := [])).weak hl (fun j v e => ?_), T.keep _ _ _ st7 fun b hb o e => (pin' b hb o e).1, fun b hb => ?_, w'⟩
        · rw [← hw8] at e
          exact (wipe_some e).1
        · obtain ⟨o, e, _⟩ := T.obj _ _ st7 b hb
          exact (pin' b hb o e).2
      cases b with
      | false =>
        simp only [Bool.false_eq_true, if_false] at q9 ⊢
        exact fin I9 q9
      | true =>
        simp only [if_true] at q9 ⊢
        refine thnF (pk.run _ s9 σ8 H9 _ I9 q9) fun z s10 ⟨yk, H10, I10, r10, q10⟩ => ?_
        refine thnF (pe.run _ s10 σ8 H10 _ I10 q10) fun z2 s11 ⟨yv, H11, I11, r11, kvs, k, kb, ek, hkb, hD11, hz11, nx⟩ => ?_
        subst ek
        exact d_dictSetT (X := X.blk s3 H3 scope ce fp) hu I11 hD11 hkb hz11 r10 r11 fun s12 I12 => fin I12 nx
  exact codeAny_compStart_dict loop (T.self X.A 0 _ _ _ st4 loop)
/-- as a value -/
theorem pe_dcT {kx vx tg iter : Expr} {ifs : List Expr} {scope : Scope} {own : List (Str × Nat)} {pos : Pos} {wi : TI} {g : L2.TG} {tt : L2.TT} {tk tv : TE} (hc : X.calm = true) (hu : X.A.units + 1 < cLine) (hN : X.N.Nodup) (hi : PI X tg iter wi) (ok : BlkOk X.N X.env.scope scope own)
    (hg : ∀ (s : Shared) (H : Hp) (C : Addr) (cl : List (Str × Addr)) (fp : List Addr), PG (X.blk s H scope (compEnvC scope cl C X.env) fp) tg g) (ht : ∀ (s : Shared) (H : Hp) (C : Addr) (cl : List (Str × Addr)) (fp : List Addr), PTs (X.blk s H scope (compEnvC scope cl C X.env) fp) ifs tt)
    (hk : ∀ (s : Shared) (H : Hp) (C : Addr) (cl : List (Str × Addr)) (fp : List Addr), PE (X.blk s H scope (compEnvC scope cl C X.env) fp) kx tk)
    (he : ∀ (s : Shared) (H : Hp) (C : Addr) (cl : List (Str × Addr)) (fp : List Addr), PE (X.blk s H scope (compEnvC scope cl C X.env) fp) vx tv) (hs : ∀ x, foldedSetIterable iter X.env x = pure x := by intro _; rfl) :
    PE X (.DictComp kx vx [⟨tg, iter, ifs, 0⟩] scope pos) (tDcT wi g tt tk tv (own.map (·.2))) := by
  refine ⟨fun pins s σ H Q I h => ?_⟩
  rw [arm_eval_DictComp]
  refine dcT_core hc hu hN I hi ok hg ht hk he hs h fun D C s' m H' I' q hn f => ⟨m, hn, fun h'' sb => ?_⟩
  obtain ⟨f0, f1, f2, f3, f4, f5⟩ := f
  exact ⟨.ref D, H', I'.turned (t' := s'.toks) (fun b o hb e => (sb.2 b hb).trans e) f0 f1 f3 f4 f5, rfl, q⟩
end
section
variable {J : It} {n : Nat} {G : Hp → Prop} {Y : Nat → Hp → V → Hp → Prop}
/-- such a comprehension over any walk -/
theorem dcT_it (w : Walk J n G Y) {g : L2.TG} {tt : L2.TT} {tk tv : TE} {vs : List Nat} {σ : L2.St} {H1 : Hp} {D : Addr} {Qd : Hp → Prop} (Pv : Nat → Hp → Prop) (h0 : Pv 0 (upd H1 D (.dT []))) (hG : ∀ i H, i ≤ n → Pv i H → G H)
    (hs : ∀ i x H H', i < n → Pv i H → Y i H x H' → g x (wipe σ vs) H' fun σ2 H2 => wipe σ2 vs = wipe σ vs ∧ tt σ2 H2 fun b H3 =>
      if b = true then tk σ2 H3 fun y H4 => tv σ2 H4 fun z H5 => ∃ kvs k b, y = .ref b ∧ H5 b = some (.tup (k.map kV)) ∧ H5 D = some (.dT kvs) ∧ kvs.length < sizeLine ∧ Pv (i + 1) (upd H5 D (.dT (putK kvs k z))) else Pv (i + 1) H3) (hd : ∀ H, Pv n H → Qd H) :
    ∃ W : Nat → Nat → Hp → Prop, (∃ m, W 0 m (upd H1 D (.dT []))) ∧ ∀ i m H, W i m H →
      (J.stop i H ∧ Qd H) ∨ (J.go i H ∧ ∃ Nx : Hp → Prop, (∀ H', Nx H' → ∃ m', m' < m ∧ W (i + 1) m' H') ∧ ∀ x H', J.yld i H x H' → g x (wipe σ vs) H' fun σ2 H2 => wipe σ2 vs = wipe σ vs ∧ tt σ2 H2 fun b H3 =>
        if b = true then tk σ2 H3 fun y H4 => tv σ2 H4 fun z H5 => ∃ kvs k b, y = .ref b ∧ H5 b = some (.tup (k.map kV)) ∧ H5 D = some (.dT kvs) ∧ kvs.length < sizeLine ∧ Nx (upd H5 D (.dT (putK kvs k z))) else Nx H3) := by
  refine ⟨fun i m H => m = n - i ∧ i ≤ n ∧ Pv i H, ⟨n, by simp, Nat.zero_le _, h0⟩, ?_⟩
  rintro i m H ⟨rfl, hi, p⟩
  have q := hG i H hi p
  by_cases hlt : i < n
  · refine .inr ⟨w.goes i H hlt q, Pv (i + 1), fun H' p' => ⟨n - (i + 1), by omega, rfl, hlt, p'⟩, fun x H' y => hs i x H H' hlt p (w.yields i H x H' hlt q y)⟩
  · have e : i = n := by omega
    subst e
    exact .inl ⟨w.stops H q, hd H p⟩
end
end K45

/-! Dicts by places; Floor.seats. -/
namespace K45
open PySem PySem.Spec PyProof.Rows L2
/-- a place as a key -/
def kT (x : List Int) : List Key := x.map Sum.inl
theorem kT_inj {x y : List Int} (h : kT x = kT y) : x = y := (List.map_inj_right (fun _ _ e => Sum.inl.inj e)).mp h
theorem kT_V (x : List Int) : (kT x).map kV = x.map V.int := by
  unfold kT
  rw [List.map_map]
  rfl
/-- the dict of these places to these values -/
def tabK (ps : List (List Int)) (vs : List V) : List (List Key × V) := (ps.zip vs).map fun q => (kT q.1, q.2)
theorem tabK_len {ps : List (List Int)} {vs : List V} (h : ps.length = vs.length) : (tabK ps vs).length = ps.length := by
  unfold tabK
  rw [List.length_map, List.length_zip]
  omega
theorem tabK_snoc {ps : List (List Int)} {vs : List V} {x : List Int} {v : V} (h : ps.length = vs.length) (hx : x ∉ ps) : putK (tabK ps vs) (kT x) v = tabK (ps ++ [x]) (vs ++ [v]) := by
  unfold putK
  rw [if_neg]
  · unfold tabK
    rw [List.zip_append h, List.map_append]
    rfl
  · rw [List.any_eq_true]
    rintro ⟨kv, h1, h2⟩
    obtain ⟨q, hq, rfl⟩ := List.mem_map.mp h1
    have e := kT_inj (of_decide_eq_true h2)
    exact hx (e ▸ (List.of_mem_zip hq).1)
theorem tabK_val : ∀ {ps : List (List Int)} {vs : List V} {i : Nat} {x : List Int} {v : V}, ps.Nodup → ps[i]? = some x → vs[i]? = some v → valV (tabK ps vs) (kT x) = some v
  | [], _, i, x, v, _, h, _ => by simp at h
  | p :: ps, [], i, x, v, _, _, h => by simp at h
  | p :: ps, u :: vs, 0, x, v, _, h1, h2 => by
    have e1 : p = x := by simpa using h1
    have e2 : u = v := by simpa using h2
    subst e1 e2
    exact L2.valV_pos (r := tabK ps vs) (p := (kT p, u)) rfl
  | p :: ps, u :: vs, i + 1, x, v, hn, h1, h2 => by
    rw [List.nodup_cons] at hn
    have h1' : ps[i]? = some x := by simpa using h1
    have h2' : vs[i]? = some v := by simpa using h2
    show valV ((kT p, u) :: tabK ps vs) (kT x) = some v
    rw [L2.valV_neg (fun z => hn.1 (by rw [kT_inj z]; exact List.mem_of_getElem? h1'))]
    exact tabK_val hn.2 h1' h2'
theorem take_fresh {ps : List (List Int)} (hn : ps.Nodup) {i : Nat} {x : List Int} (h : ps[i]? = some x) : x ∉ ps.take i := by
  intro hm
  have e := takeS h
  have hn2 : (ps.take (i + 1)).Nodup := List.Sublist.nodup (List.take_sublist _ _) hn
  rw [e, List.nodup_append] at hn2
  exact hn2.2.2 x hm x (List.mem_singleton.mpr rfl) rfl
theorem tabK_take {ps : List (List Int)} {vs : List V} (hn : ps.Nodup) (hl : ps.length = vs.length) {i : Nat} {x : List Int} {v : V} (h1 : ps[i]? = some x) (h2 : vs[i]? = some v) :
    putK (tabK (ps.take i) (vs.take i)) (kT x) v = tabK (ps.take (i + 1)) (vs.take (i + 1)) := by
  rw [takeS h1, takeS h2]
  exact tabK_snoc (by rw [List.length_take, List.length_take, hl]) (take_fresh hn h1)
theorem rr_nd : ∀ r ∈ RR, (placesL r).Nodup := by decide +kernel
def upI (n : Nat) : List V := (List.range n).map fun i => V.int (i : Nat)
section
variable {P : Program} {w : World} {K : PySem.W.Frag} {mg : Str → Option Value} {base : Heap} {f f1 f2 f3 f4 f5 C fI fM : Addr} {fd fd1 fd2 fd3 fd4 fd5 fdI : FuncData}
def spSeats (K : PySem.W.Frag) (C : Addr) : Sp := fun vs H Q _ => ∃ (p : Addr) (r : List Int), vs = [.ref p] ∧ FloorAt K C H p r ∧ r ∈ RR ∧ ∀ D H', Same H H' → H D = none → H' D = some (.dT (tabK (placesL r) (upI (placesL r).length))) → Q (.ref D) H'
abbrev seN : List Str := ["self", "place", "seat"]
theorem scSeats : FnScope seN ["self"] (defScope sFSeats) := ⟨rfl, rfl, rfl, by decide +kernel, rfl, by decide +kernel, by decide +kernel⟩
theorem ok_seats (F : FunD K "seats" "Floor.seats" (defArgs sFSeats) (defBody sFSeats) (defScope sFSeats) [] [] f fd) (B : Bl mg) (T : FlT K mg C fI fM) : FnOk P w K mg base CX0 2 f fd ["self"] (spSeats K C) := by
  refine F.ok scSeats (fun vs H Q E h => ?_) (fun cdv A outer s H vs Q E hr h => ?_)
  · obtain ⟨p, r, rfl, _⟩ := h
    rfl
  · obtain ⟨p, r, rfl, hF, h14, k⟩ := h
    refine ⟨_, PSs.nox (pss_one (ps_ret (pe_dcT (own := [("place", 1), ("seat", 2)]) (g := gTup K 2 (gCons (gName 2) (gCons (gName 1) gNil))) (tt := tYes) (tk := tVar 1) (tv := tVar 2) rfl (Nat.lt_of_le_of_lt (Nat.add_le_add_left (by decide) _) hr.units) scSeats.nd
      (pi_enum rfl (B "enumerate" (by decide +kernel)) (pa_cons (pe_fld (pv 0) rfl) pa_nil)) (blkOk_by (own := [("place", 1), ("seat", 2)]) (N := seN) (sc := defScope sFSeats) (by decide +kernel))
      (fun _ _ _ _ _ => pg_tup rfl (pgs_cons (pg_name (i := 2) scSeats.nd rfl (Or.inl rfl)) (pgs_cons (pg_name (i := 1) scSeats.nd rfl (Or.inl rfl)) pgs_nil))) (fun _ _ _ _ _ => pts_nil) (fun _ _ _ _ _ => pv 1) (fun _ _ _ _ _ => pv 2)))), ?_⟩
    obtain ⟨dx, ar, po, pl, h1, h2, h3, kp, hk1, hk2, hk3⟩ := id hF
    have h16 := rr_pl0 r h14
    have nd := rr_nd r h14
    have kl : kp.length = (placesL r).length := by rw [← hk2, List.length_map]
    refine ⟨_, rfl, p, C, dx, _, _, rfl, h1, T.cl, T.aL, g_places, pl, _, rfl, SqL.of hk1, fun D hD => ?_⟩
    refine dcT_it (walk_enum (K := K) (a := pl) (xs := rf kp)) (fun i H2 => Same H H2 ∧ H2 D = some (.dT (tabK ((placesL r).take i) ((upI (placesL r).length).take i)))) ⟨same_upd hD, upd_same⟩ (fun i H2 _ ⟨s2, _⟩ => SqL.of (s2 _ _ hk1)) ?_ ?_
    · rintro i x H2 H3 hi ⟨s2, h2d⟩ ⟨Tt, u, v, rfl, nT, rfl, e1, e2⟩
      have e1' : u = V.int (i : Nat) := (Option.some.inj e1).symm
      subst e1'
      obtain ⟨q, rfl, hq⟩ := getR e2
      have hq2 : (placesL r)[i]? = some q.2 := by rw [← hk2, List.getElem?_map, hq]; rfl
      have sT : Same H2 (upd H2 Tt (.tup [.int (i : Nat), .ref q.1])) := same_upd nT
      refine ⟨Tt, _, rfl, SqT.of upd_same, rfl, _, _, rfl, _, _, rfl, rfl, ?_⟩
      have il : i < (placesL r).length := ltL hq2
      have eu : (upI (placesL r).length)[i]? = some (V.int (i : Nat)) := by
        unfold upI
        rw [List.getElem?_map, List.getElem?_range il]
        rfl
      refine ⟨rfl, _, rfl, _, rfl, _, kT q.2, q.1, rfl, ?_, sT _ _ h2d, ?_, ?_⟩
      · rw [kT_V]
        exact sT _ _ (s2 _ _ (hk3.out q (List.mem_of_getElem? hq)))
      · rw [tabK_len (by rw [List.length_take, List.length_take]; simp [upI])]
        exact sl_lt (by rw [List.length_take]; omega)
      · refine ⟨same_at (s2.trans sT) hD, ?_⟩
        rw [upd_same, tabK_take nd (by simp [upI]) hq2 eu]
    · rintro H2 ⟨s2, h2d⟩
      refine k D H2 s2 hD ?_
      rw [h2d, List.length_map, kl, List.take_length, List.take_of_length_le (by simp [upI])]
end
end K45

/-! Places moved and mirrored are all places, each once. -/
namespace K45
open PySem PySem.Spec PyProof.Rows L2
def movP (r s : List Int) : List (List Int) := (placesL r).map fun x => sumP r x s
def mirP (r : List Int) : List (List Int) := (placesL r).map fun x => repL r x (-1)
theorem mov_nd : ∀ r ∈ RR, ∀ s ∈ placesL r, (movP r s).Nodup := by decide +kernel
theorem mov_all : ∀ r ∈ RR, ∀ s ∈ placesL r, ∀ x ∈ placesL r, x ∈ movP r s := by decide +kernel
theorem mir_nd : ∀ r ∈ RR, (mirP r).Nodup := by decide +kernel
theorem mir_all : ∀ r ∈ RR, ∀ x ∈ placesL r, x ∈ mirP r := by decide +kernel
end K45

/-! zip of a list and a tuple. -/
namespace K45
open PySem PySem.Spec PyProof.Rows L2
/-- a list and a tuple of one length as they stand at each turn, the items in new pairs -/
def ItZm (K : PySem.W.Frag) (a b : Addr) : It :=
  ⟨fun i H => ∃ (xs ys : List V) (x y : V), SqL K H a xs ∧ SqT K H b ys ∧ xs[i]? = some x ∧ ys[i]? = some y,
    fun i H v H' => ∃ T x y, v = .ref T ∧ H T = none ∧ H' = upd H T (.tup [x, y]) ∧ (∀ xs, SqL K H a xs → xs[i]? = some x) ∧ ∀ ys, SqT K H b ys → ys[i]? = some y,
    fun i H => ∃ xs ys : List V, SqL K H a xs ∧ SqT K H b ys ∧ xs.length = i ∧ ys.length = i⟩
theorem turn_zipM {P : Program} {w : World} {K : PySem.W.Frag} {elts : List Expr} {kk : Nat} {tpos : Pos} {a b z TI TO i1 i2 : Addr} (S : ZipSep2 z TI TO i1 i2 [i1, a] [i2, b]) (na : a ≠ i1) (nb : b ≠ i2) :
    Turn P w K (.Tuple elts kk tpos) (ItZm K a b) [z, TI, TO, i1, i2] z (fun i h => IsZip h z TI TO .none ∧ IsTupOf2 h TI (.ref i1) (.ref i2) ∧ (∃ a1 a2, IsTupOf2 h TO a1 a2) ∧ h.IsListIter i1 a i ∧ h.IsTupleIter i2 b i) where
  mem := by simp
  obj := fun i h st e he => by
    obtain ⟨hz, hTI, ⟨x, y, hTO⟩, ⟨o1, e1, _, d1⟩, ⟨o2, e2, _, d2⟩⟩ := st
    have e' : e = z ∨ e = TI ∨ e = TO ∨ e = i1 ∨ e = i2 := by simpa using he
    rcases e' with q | q | q | q | q
    · rw [q]; exact ⟨_, hz, fun v q => nomatch q⟩
    · rw [q]; exact ⟨_, hTI, fun v q => nomatch q⟩
    · rw [q]; exact ⟨_, hTO, fun v q => nomatch q⟩
    · rw [q]; exact ⟨o1, e1, fun v q => by rw [d1] at q; cases q⟩
    · rw [q]; exact ⟨o2, e2, fun v q => by rw [d2] at q; cases q⟩
  keep := fun i h h' st k => by
    obtain ⟨hz, hTI, ⟨x, y, hTO⟩, h1, h2⟩ := st
    exact ⟨k z (by simp) _ hz, k TI (by simp) _ hTI, ⟨x, y, k TO (by simp) _ hTO⟩, h1.at fun o q => k i1 (by simp) o q, h2.at fun o q => k i2 (by simp) o q⟩
  item := by
    intro X hP hw hK hc i pins s σ H E I hf st hg
    subst hP hw hK
    obtain ⟨hz, hTI, hTO, h1, h2⟩ := st
    obtain ⟨xs, ys, x, y, hqx, hqy, hx, hy⟩ := hg
    obtain ⟨its1, rv1, p1, _⟩ := I.list hqx
    obtain ⟨its2, rv2, p2, _⟩ := I.tuple hqy
    obtain ⟨v1, g1, r1⟩ := rv1.get hx
    obtain ⟨v2, g2, r2⟩ := rv2.get hy
    have hh : X.A.in1.handled = none := I.ok.hd hc
    have G := GoesN.zip2 (prog := X.prog) (w := X.w) (A := X.A) (elts := elts) (x1 := kk) (pos := tpos) S (Draws.list hh i1 a na its1.toArray) (Draws.tuple hh i2 b nb its2.toArray)
    have l1 := ltL g1
    have l2 := ltL g2
    refine G.goes i s (fun u s2 => ∃ x H', Inv X pins σ H' s2 ∧ RelV x u ∧ (ItZm X.K a b).yld i H x H' ∧ _ ∧ ∀ b ∈ [z, TI, TO, i1, i2], H' b = none) E (by simp; omega) ⟨hz, hTI, hTO, ⟨h1, p1.isList⟩, ⟨h2, p2⟩⟩ fun v h' tk hY st2 hk htk => ?_
    obtain ⟨T, w1, w2, rfl, hT, q1, q2, hI⟩ := hY
    obtain ⟨z', TI', TO', ⟨k1, _⟩, ⟨k2, _⟩⟩ := st2
    have e1 : w1 = v1 := by simpa [g1] using q1.symm
    have e2 : w2 = v2 := by simpa [g2] using q2.symm
    subst e1 e2
    have new : ObjOk X.prog X.w (upd H T (.tup [x, y])) h' T (.tup [x, y]) := ⟨by show 2 ≤ sizeLine; decide, [w1, w2], .cons r1 (.cons r2 .nil), hI⟩
    have I1 := I.turnedNew (t' := tk) (ch := [z, TO, i1, i2]) hk (fun b hb => hf b (by simp at hb ⊢; rcases hb with q | q | q | q <;> simp [q])) hT new
    refine ⟨.ref T, _, I1, rfl, ⟨T, x, y, rfl, I.hok.fresh hT, rfl, fun l hl => by rw [I.list_inj hl hqx]; exact hx, fun l hl => by rw [I.tuple_inj hl hqy]; exact hy⟩, ⟨z', TI', TO', k1, k2⟩, fun e he => ?_⟩
    have hlt : e < s.heap.objs.size := by
      have e' : e = z ∨ e = TI ∨ e = TO ∨ e = i1 ∨ e = i2 := by simpa using he
      obtain ⟨_, _, hTO'⟩ := hTO
      obtain ⟨_, f1, _⟩ := h1
      obtain ⟨_, f2, _⟩ := h2
      rcases e' with q | q | q | q | q
      · rw [q]; exact Heap.lt_size hz
      · rw [q]; exact Heap.lt_size hTI
      · rw [q]; exact Heap.lt_size hTO'
      · rw [q]; exact Heap.lt_size f1
      · rw [q]; exact Heap.lt_size f2
    rw [upd_ne (Nat.ne_of_lt (Nat.lt_of_lt_of_le hlt hT))]
    exact (hf e he).1
  done := by
    intro X hP hw hK hc i pins s σ H E I hf st hg
    subst hP hw hK
    obtain ⟨hz, hTI, hTO, h1, h2⟩ := st
    obtain ⟨xs, ys, hqx, hqy, n1, n2⟩ := hg
    obtain ⟨its1, rv1, p1, _⟩ := I.list hqx
    obtain ⟨its2, rv2, p2, _⟩ := I.tuple hqy
    have l1 := rv1.length
    have l2 := rv2.length
    have hh : X.A.in1.handled = none := I.ok.hd hc
    have G := GoesN.zip2 (prog := X.prog) (w := X.w) (A := X.A) (elts := elts) (x1 := kk) (pos := tpos) S (Draws.list hh i1 a na its1.toArray) (Draws.tuple hh i2 b nb its2.toArray)
    have en : min its1.toArray.size its2.toArray.size = i := by simp; omega
    rw [en] at G
    exact G.stops s _ E ⟨hz, hTI, hTO, ⟨h1, p1.isList⟩, ⟨h2, p2⟩⟩ fun h' tk hk htk => I.turnedL (t' := tk) (ch := [z, TO, i1, i2]) hk (fun b hb => hf b (by simp at hb ⊢; rcases hb with q | q | q | q <;> simp [q]))
  self := fun A i s Q E st h => wpAny_pyIter_zip st.1 h
def iZipM (K : PySem.W.Frag) (ta : TA) : TI := fun σ H R => ta σ H fun vs H1 => ∃ a b xs ys, vs = [.ref a, .ref b] ∧ SqL K H1 a xs ∧ SqT K H1 b ys ∧ R (ItZm K a b) H1
theorem pi_zipM {X : Cx} {e e2 : Expr} {ta : TA} {p pos tpos : Pos} {elts : List Expr} {kk : Nat} (hg : Gl X "zip") (hm : X.mg "zip" = none) (ha : PA X [e, e2] ta)
    (hs : starEach [e, e2] X.env = (false, eval e X.env) :: starEach [e2] X.env := by rfl) (hpl : (backTo pos (starEach [e2] X.env)).any (·.1) = false := by rfl) : PI X (.Tuple elts kk tpos) (.Call (.Name "zip" p) [e, e2] [] pos) (iZipM X.K ta) := by
  refine ⟨fun pins s σ H R I h => ?_⟩
  refine Call_ (ld_blt I hg hm PyProof.Rows.boot_zip (PyProof.Rows.callWith_type1 (thn (ha.run pos pins s σ H _ I h) fun us s1 ⟨vs, H1, I1, r1, q1⟩ => ?_) hs hpl))
  obtain ⟨a, b, xs, ys, rfl, hqx, hqy, q⟩ := q1
  cases r1 with
  | cons r rr =>
    cases rr with
    | cons r' rr =>
      cases rr
      cases r
      cases r'
      obtain ⟨its1, rv1, p1, _⟩ := I1.list hqx
      obtain ⟨its2, rv2, p2, _⟩ := I1.tuple hqy
      obtain ⟨o1, ho1, _⟩ := id p1.isList
      obtain ⟨o2, ho2, _⟩ := id p2
      have la := Heap.lt_size ho1
      have lb := Heap.lt_size ho2
      generalize hN : s1.heap.objs.size = N at la lb
      refine zip_begins2 (begins_list a its1.toArray) (begins_tuple b its2.toArray) p1.isList p2 fun h' hz hTI hTO g1 g2 hsz hk => wpAny_pyIter_zip hz ?_
      rw [hN] at hz hTI hTO g1 g2 ⊢
      have I2 : Inv X pins σ H1 { s1 with heap := h' } := I1.kept (t' := s1.toks) hk
      have S : ZipSep2 (N + 4) (N + 2) (N + 3) N (N + 1) [N, a] [N + 1, b] := zip_sep2 (fun d hd => by rw [List.mem_singleton.mp hd]; exact la) (fun d hd => by rw [List.mem_singleton.mp hd]; exact lb)
      refine ⟨N + 4, [N + 4, N + 2, N + 3, N, N + 1], _, _, H1, rfl, I2, turn_zipM S (Nat.ne_of_lt la) (Nat.ne_of_lt (Nat.lt_succ_of_lt lb)), ⟨hz, hTI, ⟨_, _, hTO⟩, ⟨_, g1, rfl, rfl⟩, ⟨_, g2, rfl, rfl⟩⟩, fun d hd => ?_, q⟩
      have hle : s1.heap.objs.size ≤ d := by
        have e' : d = N + 4 ∨ d = N + 2 ∨ d = N + 3 ∨ d = N ∨ d = N + 1 := by simpa using hd
        rw [hN]
        rcases e' with z | z | z | z | z
        · rw [z]; exact Nat.le_add_right _ _
        · rw [z]; exact Nat.le_add_right _ _
        · rw [z]; exact Nat.le_add_right _ _
        · rw [z]; exact Nat.le_refl _
        · rw [z]; exact Nat.le_add_right _ _
      exact ⟨(I1.fpOk hle (I1.hok.fresh hle)).1, (I1.fpOk hle (I1.hok.fresh hle)).2⟩
theorem walk_zipM {K : PySem.W.Frag} {a b : Addr} {xs ys : List V} (h1 : ys.length = xs.length) : Walk (ItZm K a b) xs.length (fun H => SqL K H a xs ∧ SqT K H b ys) (YPair (fun i => xs[i]?) (fun i => ys[i]?)) := by
  refine ⟨fun i _ hi q => ⟨xs, ys, xs[i], ys[i]'(by omega), q.1, q.2, by simp [hi], by simp [show i < ys.length by omega]⟩, fun _ q => ⟨xs, ys, q.1, q.2, rfl, h1⟩, fun i H v H' _ q y => ?_⟩
  obtain ⟨T, x, y, h2, h3, h4, h5, h6⟩ := y
  exact ⟨T, x, y, h2, h3, h4, h5 xs q.1, h6 ys q.2⟩
end K45

/-! Rows laid anew: _laid, moved, mirrored. -/
namespace K45
open PySem PySem.Spec PyProof.Rows L2
/-- the row whose number at each of qs is that of ns, in the order of the places -/
def laidL (r : List Int) (qs : List (List Int)) (ns : List Num) : List Num := (placesL r).map fun x => ns.getD (qs.idxOf x) ([], 1)
theorem laidL_len (r : List Int) (qs : List (List Int)) (ns : List Num) : (laidL r qs ns).length = (placesL r).length := by
  unfold laidL
  rw [List.length_map]
theorem idx_get {qs : List (List Int)} {x : List Int} (h : x ∈ qs) : qs[qs.idxOf x]? = some x := by
  rw [List.getElem?_eq_getElem (List.idxOf_lt_length_iff.mpr h), List.getElem_idxOf]
section
variable {P : Program} {w : World} {K : PySem.W.Frag} {mg : Str → Option Value} {base : Heap} {f f1 f2 f3 f4 f5 C fI fM : Addr} {fd fd1 fd2 fd3 fd4 fd5 fdI : FuncData}
def spLaid (K : PySem.W.Frag) (C : Addr) : Sp := fun vs H Q _ => ∃ (p L : Addr) (u : V) (r : List Int) (ns : List Num) (qs : List (List Int)), vs = [.ref p, u, .ref L] ∧ FloorAt K C H p r ∧ RowAt K H u ns ∧ r ∈ RR ∧ PlL K H L qs ∧ qs.Nodup ∧ qs.length = (placesL r).length ∧ ns.length = qs.length ∧ (∀ x ∈ placesL r, x ∈ qs) ∧
  ∀ v' H', Same H H' → RowAt K H' v' (laidL r qs ns) → Q v' H'
abbrev laN : List Str := ["floor", "row", "places", "found", "place", "item"]
end
end K45

/-! Rows moved and mirrored. -/
namespace K45
open PySem PySem.Spec PyProof.Rows L2
def movL (r s : List Int) (ns : List Num) : List Num := laidL r (movP r s) ns
def mirL (r : List Int) (ns : List Num) : List Num := laidL r (mirP r) ns
section
variable {P : Program} {w : World} {K : PySem.W.Frag} {mg : Str → Option Value} {base : Heap} {f f1 f2 f3 f4 f5 C fI fM : Addr} {fd fd1 fd2 fd3 fd4 fd5 fdI : FuncData}
def spMoved (K : PySem.W.Frag) : Sp := fun vs H Q _ => ∃ (v u z : V) (r s : List Int) (ns : List Num), vs = [v, u, z] ∧ TupI K H v r ∧ RowAt K H u ns ∧ TupI K H z s ∧ r ∈ RR ∧ RowG r ns ∧ s ∈ placesL r ∧ ∀ v' H', Same H H' → RowAt K H' v' (movL r s ns) → Q v' H'
abbrev mvN : List Str := ["rings", "row", "place", "floor", "one"]
def spMirr (K : PySem.W.Frag) : Sp := fun vs H Q _ => ∃ (v u : V) (r : List Int) (ns : List Num), vs = [v, u] ∧ TupI K H v r ∧ RowAt K H u ns ∧ r ∈ RR ∧ RowG r ns ∧ ∀ v' H', Same H H' → RowAt K H' v' (mirL r ns) → Q v' H'
abbrev mrN : List Str := ["rings", "row", "floor", "one"]
end
end K45

/-! The law's moved and mirrored rows are the program's. -/
namespace K45
open PySem PySem.Spec PyProof.Rows L2
def zeroP (r : List Int) : List Int := (placesL r).getD 0 []
theorem zero_in : ∀ r ∈ RR, zeroP r ∈ placesL r := by decide +kernel
/-- a row laid anew by indexes -/
theorem laid_get {r : List Int} {qs : List (List Int)} {ns : List Num} {i : Nat} {x : List Int} (hx : (placesL r)[i]? = some x) : (laidL r qs ns)[i]? = some (ns.getD (qs.idxOf x) ([], 1)) := by
  unfold laidL
  rw [List.getElem?_map, hx]
  rfl
/-- what is asked of each number holds of the laid row's -/
theorem laid_mem {r : List Int} {qs : List (List Int)} {ns : List Num} (hl : ns.length = qs.length) (all : ∀ x ∈ placesL r, x ∈ qs) {n : Num} (hn : n ∈ laidL r qs ns) : n ∈ ns := by
  unfold laidL at hn
  obtain ⟨x, hx, rfl⟩ := List.mem_map.mp hn
  have jl := List.idxOf_lt_length_iff.mpr (all x hx)
  rw [List.getD_eq_getElem?_getD, List.getElem?_eq_getElem (show qs.idxOf x < ns.length by omega)]
  exact List.getElem_mem _
end K45

/-! Rows laid anew stay rows; laid twice. -/
namespace K45
open PySem PySem.Spec PyProof.Rows L2
theorem rowS_laid {r : List Int} {D : Int} {qs : List (List Int)} {ns : List Num} (h : RowS r D ns) (ql : qs.length = (placesL r).length) (all : ∀ x ∈ placesL r, x ∈ qs) : RowS r D (laidL r qs ns) :=
  ⟨⟨laidL_len r qs ns, fun n hn => h.c.num n (laid_mem (by rw [h.c.len, ql]) all hn)⟩, fun n hn => h.d n (laid_mem (by rw [h.c.len, ql]) all hn)⟩
theorem absR_laid {r : List Int} {M : Nat} {qs : List (List Int)} {ns : List Num} (h : AbsR M ns) (hl : ns.length = qs.length) (all : ∀ x ∈ placesL r, x ∈ qs) : AbsR M (laidL r qs ns) := fun n hn => h n (laid_mem hl all hn)
theorem movP_len (r s : List Int) : (movP r s).length = (placesL r).length := by rw [movP, List.length_map]
theorem mirP_len (r : List Int) : (mirP r).length = (placesL r).length := by rw [mirP, List.length_map]
theorem rowS_mov {r s : List Int} {D : Int} {ns : List Num} (hr : r ∈ RR) (hs : s ∈ placesL r) (h : RowS r D ns) : RowS r D (movL r s ns) := rowS_laid h (movP_len r s) (mov_all r hr s hs)
theorem rowS_mir {r : List Int} {D : Int} {ns : List Num} (hr : r ∈ RR) (h : RowS r D ns) : RowS r D (mirL r ns) := rowS_laid h (mirP_len r) (mir_all r hr)
/-- laid twice, by the indexes -/
theorem laid_laid {r : List Int} {p q t : List (List Int)} {ns : List Num} (hp : ∀ x ∈ placesL r, (placesL r)[p.idxOf x]? ≠ none)
    (h : ∀ x ∈ placesL r, q.idxOf ((placesL r).getD (p.idxOf x) []) = t.idxOf x) : laidL r p (laidL r q ns) = laidL r t ns := by
  refine List.map_congr_left fun x hx => ?_
  cases e : (placesL r)[p.idxOf x]? with
  | none => exact absurd e (hp x hx)
  | some y =>
    have g : (placesL r).getD (p.idxOf x) [] = y := by rw [List.getD_eq_getElem?_getD, e]; rfl
    have k := h x hx
    rw [g] at k
    rw [List.getD_eq_getElem?_getD, laid_get e, k]
    rfl
theorem lay_in {r : List Int} {p : List (List Int)} (pl : p.length = (placesL r).length) (all : ∀ x ∈ placesL r, x ∈ p) : ∀ x ∈ placesL r, (placesL r)[p.idxOf x]? ≠ none := fun x hx e => by
  have jl := List.idxOf_lt_length_iff.mpr (all x hx)
  rw [List.getElem?_eq_none_iff] at e
  omega
theorem mir_ix : ∀ r ∈ RR, ∀ x ∈ placesL r, (mirP r).idxOf ((placesL r).getD ((mirP r).idxOf x) []) = (placesL r).idxOf x := by decide +kernel
/-- mirrored twice -/
theorem mir_mir {r : List Int} (hr : r ∈ RR) {ns : List Num} (hl : ns.length = (placesL r).length) : mirL r (mirL r ns) = ns := by
  have e : mirL r (mirL r ns) = laidL r (placesL r) ns := laid_laid (lay_in (mirP_len r) (mir_all r hr)) (mir_ix r hr)
  rw [e]
  unfold laidL
  refine List.ext_getElem? fun i => ?_
  rw [List.getElem?_map]
  cases hx : (placesL r)[i]? with
  | none =>
    have := List.getElem?_eq_none_iff.mp hx
    rw [List.getElem?_eq_none_iff.mpr (by omega)]
    rfl
  | some x =>
    have il := ltL hx
    have ei : (placesL r)[i] = x := by
      have q := List.getElem?_eq_getElem il
      rw [hx] at q
      exact (Option.some.inj q).symm
    have ix : (placesL r).idxOf x = i := by rw [← ei]; exact (rr_nd r hr).idxOf_getElem i il
    show some (ns.getD ((placesL r).idxOf x) ([], 1)) = _
    rw [ix, List.getD_eq_getElem?_getD, List.getElem?_eq_getElem (show i < ns.length by omega)]
    rfl
end K45

/-! zip of a tuple and a list. -/
namespace K45
open PySem PySem.Spec PyProof.Rows L2
/-- a tuple and a list of one length as they stand at each turn, the items in new pairs -/
def ItZq (K : PySem.W.Frag) (a b : Addr) : It :=
  ⟨fun i H => ∃ (xs ys : List V) (x y : V), SqT K H a xs ∧ SqL K H b ys ∧ xs[i]? = some x ∧ ys[i]? = some y,
    fun i H v H' => ∃ T x y, v = .ref T ∧ H T = none ∧ H' = upd H T (.tup [x, y]) ∧ (∀ xs, SqT K H a xs → xs[i]? = some x) ∧ ∀ ys, SqL K H b ys → ys[i]? = some y,
    fun i H => ∃ xs ys : List V, SqT K H a xs ∧ SqL K H b ys ∧ xs.length = i ∧ ys.length = i⟩
theorem turn_zipQ {P : Program} {w : World} {K : PySem.W.Frag} {elts : List Expr} {kk : Nat} {tpos : Pos} {a b z TI TO i1 i2 : Addr} (S : ZipSep2 z TI TO i1 i2 [i1, a] [i2, b]) (na : a ≠ i1) (nb : b ≠ i2) :
    Turn P w K (.Tuple elts kk tpos) (ItZq K a b) [z, TI, TO, i1, i2] z (fun i h => IsZip h z TI TO .none ∧ IsTupOf2 h TI (.ref i1) (.ref i2) ∧ (∃ a1 a2, IsTupOf2 h TO a1 a2) ∧ h.IsTupleIter i1 a i ∧ h.IsListIter i2 b i) where
  mem := by simp
  obj := fun i h st e he => by
    obtain ⟨hz, hTI, ⟨x, y, hTO⟩, ⟨o1, e1, _, d1⟩, ⟨o2, e2, _, d2⟩⟩ := st
    have e' : e = z ∨ e = TI ∨ e = TO ∨ e = i1 ∨ e = i2 := by simpa using he
    rcases e' with q | q | q | q | q
    · rw [q]; exact ⟨_, hz, fun v q => nomatch q⟩
    · rw [q]; exact ⟨_, hTI, fun v q => nomatch q⟩
    · rw [q]; exact ⟨_, hTO, fun v q => nomatch q⟩
    · rw [q]; exact ⟨o1, e1, fun v q => by rw [d1] at q; cases q⟩
    · rw [q]; exact ⟨o2, e2, fun v q => by rw [d2] at q; cases q⟩
  keep := fun i h h' st k => by
    obtain ⟨hz, hTI, ⟨x, y, hTO⟩, h1, h2⟩ := st
    exact ⟨k z (by simp) _ hz, k TI (by simp) _ hTI, ⟨x, y, k TO (by simp) _ hTO⟩, h1.at fun o q => k i1 (by simp) o q, h2.at fun o q => k i2 (by simp) o q⟩
  item := by
    intro X hP hw hK hc i pins s σ H E I hf st hg
    subst hP hw hK
    obtain ⟨hz, hTI, hTO, h1, h2⟩ := st
    obtain ⟨xs, ys, x, y, hqx, hqy, hx, hy⟩ := hg
    obtain ⟨its1, rv1, p1, _⟩ := I.tuple hqx
    obtain ⟨its2, rv2, p2, _⟩ := I.list hqy
    obtain ⟨v1, g1, r1⟩ := rv1.get hx
    obtain ⟨v2, g2, r2⟩ := rv2.get hy
    have hh : X.A.in1.handled = none := I.ok.hd hc
    have G := GoesN.zip2 (prog := X.prog) (w := X.w) (A := X.A) (elts := elts) (x1 := kk) (pos := tpos) S (Draws.tuple hh i1 a na its1.toArray) (Draws.list hh i2 b nb its2.toArray)
    have l1 := ltL g1
    have l2 := ltL g2
    refine G.goes i s (fun u s2 => ∃ x H', Inv X pins σ H' s2 ∧ RelV x u ∧ (ItZq X.K a b).yld i H x H' ∧ _ ∧ ∀ b ∈ [z, TI, TO, i1, i2], H' b = none) E (by simp; omega) ⟨hz, hTI, hTO, ⟨h1, p1⟩, ⟨h2, p2.isList⟩⟩ fun v h' tk hY st2 hk htk => ?_
    obtain ⟨T, w1, w2, rfl, hT, q1, q2, hI⟩ := hY
    obtain ⟨z', TI', TO', ⟨k1, _⟩, ⟨k2, _⟩⟩ := st2
    have e1 : w1 = v1 := by simpa [g1] using q1.symm
    have e2 : w2 = v2 := by simpa [g2] using q2.symm
    subst e1 e2
    have new : ObjOk X.prog X.w (upd H T (.tup [x, y])) h' T (.tup [x, y]) := ⟨by show 2 ≤ sizeLine; decide, [w1, w2], .cons r1 (.cons r2 .nil), hI⟩
    have I1 := I.turnedNew (t' := tk) (ch := [z, TO, i1, i2]) hk (fun b hb => hf b (by simp at hb ⊢; rcases hb with q | q | q | q <;> simp [q])) hT new
    refine ⟨.ref T, _, I1, rfl, ⟨T, x, y, rfl, I.hok.fresh hT, rfl, fun l hl => by rw [I.tuple_inj hl hqx]; exact hx, fun l hl => by rw [I.list_inj hl hqy]; exact hy⟩, ⟨z', TI', TO', k1, k2⟩, fun e he => ?_⟩
    have hlt : e < s.heap.objs.size := by
      have e' : e = z ∨ e = TI ∨ e = TO ∨ e = i1 ∨ e = i2 := by simpa using he
      obtain ⟨_, _, hTO'⟩ := hTO
      obtain ⟨_, f1, _⟩ := h1
      obtain ⟨_, f2, _⟩ := h2
      rcases e' with q | q | q | q | q
      · rw [q]; exact Heap.lt_size hz
      · rw [q]; exact Heap.lt_size hTI
      · rw [q]; exact Heap.lt_size hTO'
      · rw [q]; exact Heap.lt_size f1
      · rw [q]; exact Heap.lt_size f2
    rw [upd_ne (Nat.ne_of_lt (Nat.lt_of_lt_of_le hlt hT))]
    exact (hf e he).1
  done := by
    intro X hP hw hK hc i pins s σ H E I hf st hg
    subst hP hw hK
    obtain ⟨hz, hTI, hTO, h1, h2⟩ := st
    obtain ⟨xs, ys, hqx, hqy, n1, n2⟩ := hg
    obtain ⟨its1, rv1, p1, _⟩ := I.tuple hqx
    obtain ⟨its2, rv2, p2, _⟩ := I.list hqy
    have l1 := rv1.length
    have l2 := rv2.length
    have hh : X.A.in1.handled = none := I.ok.hd hc
    have G := GoesN.zip2 (prog := X.prog) (w := X.w) (A := X.A) (elts := elts) (x1 := kk) (pos := tpos) S (Draws.tuple hh i1 a na its1.toArray) (Draws.list hh i2 b nb its2.toArray)
    have en : min its1.toArray.size its2.toArray.size = i := by simp; omega
    rw [en] at G
    exact G.stops s _ E ⟨hz, hTI, hTO, ⟨h1, p1⟩, ⟨h2, p2.isList⟩⟩ fun h' tk hk htk => I.turnedL (t' := tk) (ch := [z, TO, i1, i2]) hk (fun b hb => hf b (by simp at hb ⊢; rcases hb with q | q | q | q <;> simp [q]))
  self := fun A i s Q E st h => wpAny_pyIter_zip st.1 h
def iZipQ (K : PySem.W.Frag) (ta : TA) : TI := fun σ H R => ta σ H fun vs H1 => ∃ a b xs ys, vs = [.ref a, .ref b] ∧ SqT K H1 a xs ∧ SqL K H1 b ys ∧ R (ItZq K a b) H1
theorem pi_zipQ {X : Cx} {e e2 : Expr} {ta : TA} {p pos tpos : Pos} {elts : List Expr} {kk : Nat} (hg : Gl X "zip") (hm : X.mg "zip" = none) (ha : PA X [e, e2] ta)
    (hs : starEach [e, e2] X.env = (false, eval e X.env) :: starEach [e2] X.env := by rfl) (hpl : (backTo pos (starEach [e2] X.env)).any (·.1) = false := by rfl) : PI X (.Tuple elts kk tpos) (.Call (.Name "zip" p) [e, e2] [] pos) (iZipQ X.K ta) := by
  refine ⟨fun pins s σ H R I h => ?_⟩
  refine Call_ (ld_blt I hg hm PyProof.Rows.boot_zip (PyProof.Rows.callWith_type1 (thn (ha.run pos pins s σ H _ I h) fun us s1 ⟨vs, H1, I1, r1, q1⟩ => ?_) hs hpl))
  obtain ⟨a, b, xs, ys, rfl, hqx, hqy, q⟩ := q1
  cases r1 with
  | cons r rr =>
    cases rr with
    | cons r' rr =>
      cases rr
      cases r
      cases r'
      obtain ⟨its1, rv1, p1, _⟩ := I1.tuple hqx
      obtain ⟨its2, rv2, p2, _⟩ := I1.list hqy
      obtain ⟨o1, ho1, _⟩ := id p1
      obtain ⟨o2, ho2, _⟩ := id p2.isList
      have la := Heap.lt_size ho1
      have lb := Heap.lt_size ho2
      generalize hN : s1.heap.objs.size = N at la lb
      refine zip_begins2 (begins_tuple a its1.toArray) (begins_list b its2.toArray) p1 p2.isList fun h' hz hTI hTO g1 g2 hsz hk => wpAny_pyIter_zip hz ?_
      rw [hN] at hz hTI hTO g1 g2 ⊢
      have I2 : Inv X pins σ H1 { s1 with heap := h' } := I1.kept (t' := s1.toks) hk
      have S : ZipSep2 (N + 4) (N + 2) (N + 3) N (N + 1) [N, a] [N + 1, b] := zip_sep2 (fun d hd => by rw [List.mem_singleton.mp hd]; exact la) (fun d hd => by rw [List.mem_singleton.mp hd]; exact lb)
      refine ⟨N + 4, [N + 4, N + 2, N + 3, N, N + 1], _, _, H1, rfl, I2, turn_zipQ S (Nat.ne_of_lt la) (Nat.ne_of_lt (Nat.lt_succ_of_lt lb)), ⟨hz, hTI, ⟨_, _, hTO⟩, ⟨_, g1, rfl, rfl⟩, ⟨_, g2, rfl, rfl⟩⟩, fun d hd => ?_, q⟩
      have hle : s1.heap.objs.size ≤ d := by
        have e' : d = N + 4 ∨ d = N + 2 ∨ d = N + 3 ∨ d = N ∨ d = N + 1 := by simpa using hd
        rw [hN]
        rcases e' with z | z | z | z | z
        · rw [z]; exact Nat.le_add_right _ _
        · rw [z]; exact Nat.le_add_right _ _
        · rw [z]; exact Nat.le_add_right _ _
        · rw [z]; exact Nat.le_refl _
        · rw [z]; exact Nat.le_add_right _ _
      exact ⟨(I1.fpOk hle (I1.hok.fresh hle)).1, (I1.fpOk hle (I1.hok.fresh hle)).2⟩
theorem walk_zipQ {K : PySem.W.Frag} {a b : Addr} {xs ys : List V} (h1 : ys.length = xs.length) : Walk (ItZq K a b) xs.length (fun H => SqT K H a xs ∧ SqL K H b ys) (YPair (fun i => xs[i]?) (fun i => ys[i]?)) := by
  refine ⟨fun i _ hi q => ⟨xs, ys, xs[i], ys[i]'(by omega), q.1, q.2, by simp [hi], by simp [show i < ys.length by omega]⟩, fun _ q => ⟨xs, ys, q.1, q.2, rfl, h1⟩, fun i H v H' _ q y => ?_⟩
  obtain ⟨T, x, y, h2, h3, h4, h5, h6⟩ := y
  exact ⟨T, x, y, h2, h3, h4, h5 xs q.1, h6 ys q.2⟩
end K45

namespace K45
open PySem PySem.Spec PyProof.Rows L2
theorem walk_zipT {K : PySem.W.Frag} {a b : Addr} {xs ys : List V} (h1 : ys.length = xs.length) : Walk (RZ.ItzT K a b) xs.length (fun H => SqT K H a xs ∧ SqT K H b ys) (YPair (fun i => xs[i]?) (fun i => ys[i]?)) := by
  refine ⟨fun i _ hi q => ⟨xs, ys, xs[i], ys[i]'(by omega), q.1, q.2, by simp [hi], by simp [show i < ys.length by omega]⟩, fun _ q => ⟨xs, ys, q.1, q.2, by simp [h1]⟩, fun i H v H' _ q y => ?_⟩
  obtain ⟨T, x, y, h2, h3, h4, h5, h6⟩ := y
  exact ⟨T, x, y, h2, h3, h4, h5 xs q.1, h6 ys q.2⟩
theorem redL_low {xs dv : List Int} (hd : 1 ≤ dv.length) (hx : xs.length = dv.length - 1) : redL xs dv = xs := by
  refine ext_getD (by rw [redL_len' hd, hx]) fun j hj => ?_
  rw [redL_len' hd] at hj
  rw [red_ph hd hj, ph_low _ _ (by omega)]
theorem num_at {K : PySem.W.Frag} {H : Hp} {v : V} {n : Num} {D : Addr} {ys : List V} {o : HO} (h : NumAt K H v n) (hD : H D = some (.lst ys)) : NumAt K (upd H D o) v n := by
  obtain ⟨p, t, rfl, h1, h2⟩ := h
  exact ⟨p, t, rfl, sqt_at h1 hD, sqt_at h2 hD⟩
end K45

/-! The deck: what the law draws by. -/
namespace K45
open PySem PySem.Spec PyProof.Rows L2
abbrev deckKV (l : Addr) (m k : Int) : List (Key × V) := [((.inr "cells" : Key), V.ref l), (.inr "mixed", .int m), (.inr "draws", .int k)]
/-- a deck at d, its cells at l -/
def DeckAt (d l : Addr) (H : Hp) : Prop := ∃ (ns : List Int) (m k : Int), H d = some (.dK (deckKV l m k)) ∧ H l = some (.lst (ns.map V.int)) ∧ ns.length ≤ 63
/-- all else stands as it was -/
def Keeps (d l : Addr) (H H' : Hp) : Prop := ∀ b o, H b = some o → b ≠ d → b ≠ l → H' b = some o
theorem Keeps.refl {d l : Addr} {H : Hp} : Keeps d l H H := fun _ _ e _ _ => e
theorem Keeps.trans {d l : Addr} {H H1 H2 : Hp} (a : Keeps d l H H1) (b : Keeps d l H1 H2) : Keeps d l H H2 := fun c o e h1 h2 => b c o (a c o e h1 h2) h1 h2
theorem Keeps.new {d l p : Addr} {H : Hp} {o : HO} (h : H p = none) : Keeps d l H (upd H p o) := fun b u e _ _ => by
  rw [upd_ne (ne_of_none e h)]
  exact e
theorem Keeps.atD {d l : Addr} {H : Hp} {o : HO} : Keeps d l H (upd H d o) := fun b u e h _ => by
  rw [upd_ne h]
  exact e
theorem Keeps.atL {d l : Addr} {H : Hp} {o : HO} : Keeps d l H (upd H l o) := fun b u e _ h => by
  rw [upd_ne h]
  exact e
theorem DeckAt.new {d l p : Addr} {H : Hp} {o : HO} (D : DeckAt d l H) (h : H p = none) : DeckAt d l (upd H p o) := by
  obtain ⟨ns, m, k, h1, h2, h3⟩ := D
  exact ⟨ns, m, k, by rw [upd_ne (ne_of_none h1 h)]; exact h1, by rw [upd_ne (ne_of_none h2 h)]; exact h2, h3⟩
theorem DeckAt.ne {d l : Addr} {H : Hp} (D : DeckAt d l H) : d ≠ l := by
  obtain ⟨ns, m, k, h1, h2, _⟩ := D
  exact ne_of h1 h2 (by intro z; cases z)
/-- one draw below n -/
def spDraw : Sp := fun vs H Q _ => ∃ (d l : Addr) (n : Int), vs = [.ref d, .int n] ∧ DeckAt d l H ∧ 1 ≤ n ∧ n < 1099511627776 ∧ ∀ r H', 0 ≤ r → r < n → DeckAt d l H' → Keeps d l H H' → Q (.int r) H'
/-- one of a list's items -/
def spPick (K : PySem.W.Frag) : Sp := fun vs H Q _ => ∃ (d l p : Addr) (xs : List V), vs = [.ref d, .ref p] ∧ DeckAt d l H ∧ H p = some (.lst xs) ∧ p ≠ l ∧ 1 ≤ xs.length ∧ xs.length < 1000000 ∧ ∀ v H', v ∈ xs → DeckAt d l H' → Keeps d l H H' → Q v H'
/-- a deck of a script -/
def spDeck (K : PySem.W.Frag) : Sp := fun vs H Q _ => ∃ (a : Addr) (ns : List Int), vs = [.ref a] ∧ SqL K H a (ns.map V.int) ∧ ns.length ≤ 63 ∧ ∀ d l H', DeckAt d l H' → (∀ b o, H b = some o → H' b = some o) → H d = none → H l = none → Q (.ref d) H'
section
theorem shaped_ints (ns : List Int) : SeqAt.shaped (.list (ns.map PyData.int)) = true := by
  have h1 : PyData.canLayAll0 (ns.map PyData.int) = true := by
    induction ns with
    | nil => rfl
    | cons n r ih => simp [PyData.canLayAll0, PyData.canLay0, ih]
  have h2 : PyData.depthAll (ns.map PyData.int) ≤ 1 := by
    induction ns with
    | nil => simp [PyData.depthAll]
    | cons n r ih =>
      have := ih (by simpa [PyData.canLayAll0, PyData.canLay0] using h1)
      simp only [List.map_cons, PyData.depthAll, PyData.depth]
      omega
  unfold SeqAt.shaped
  rw [Bool.and_eq_true]
  have h3 : (PyData.list (ns.map PyData.int)).depth ≤ 64 := by
    simp only [PyData.depth]
    omega
  exact ⟨by simpa [PyData.canLay0] using h1, decide_eq_true h3⟩
theorem eqv_nil : ∀ ns : List Int, PyData.eqv (.list (ns.map PyData.int)) (.list []) = decide (ns = []) := by
  intro ns
  cases ns with
  | nil => rfl
  | cons n r => simp [PyData.eqv, PyData.eqvAll]
theorem ne_cm : ¬ (Sum.inr "cells" : Key) = .inr "mixed" := fun z => absurd (Sum.inr.inj z) (by decide +kernel)
theorem ne_cd : ¬ (Sum.inr "cells" : Key) = .inr "draws" := fun z => absurd (Sum.inr.inj z) (by decide +kernel)
theorem ne_md : ¬ (Sum.inr "mixed" : Key) = .inr "draws" := fun z => absurd (Sum.inr.inj z) (by decide +kernel)
theorem val_cells {l : Addr} {m k : Int} : valV (deckKV l m k) (.inr "cells") = some (.ref l) := by
  rw [L2.valV_pos rfl]
theorem val_mixed {l : Addr} {m k : Int} : valV (deckKV l m k) (.inr "mixed") = some (.int m) := by
  rw [L2.valV_neg ne_cm, L2.valV_pos rfl]
theorem val_turn {l : Addr} {m k : Int} : valV (deckKV l m k) (.inr "draws") = some (.int k) := by
  rw [L2.valV_neg ne_cd, L2.valV_neg ne_md, L2.valV_pos rfl]
theorem put_turn {l : Addr} {m k j : Int} : putK (deckKV l m k) (.inr "draws") (.int j) = deckKV l m j := by
  have h1 : ¬ Str.ofString "cells" = Str.ofString "draws" := by decide +kernel
  have h2 : ¬ Str.ofString "mixed" = Str.ofString "draws" := by decide +kernel
  simp [putK, deckKV, h1, h2]
theorem get_cells {H : Hp} {d l : Addr} {m k : Int} (h : H d = some (.dK (deckKV l m k))) : DGet H d (.str "cells") (some (.ref l)) := by
  rw [← val_cells (l := l) (m := m) (k := k)]
  exact DGet.k (k := Sum.inr "cells") h
theorem get_mixed {H : Hp} {d l : Addr} {m k : Int} (h : H d = some (.dK (deckKV l m k))) : DGet H d (.str "mixed") (some (.int m)) := by
  rw [← val_mixed (l := l) (m := m) (k := k)]
  exact DGet.k (k := Sum.inr "mixed") h
theorem get_turn {H : Hp} {d l : Addr} {m k : Int} (h : H d = some (.dK (deckKV l m k))) : DGet H d (.str "draws") (some (.int k)) := by
  rw [← val_turn (l := l) (m := m) (k := k)]
  exact DGet.k (k := Sum.inr "draws") h
theorem put_turnD {H : Hp} {d l : Addr} {m k j : Int} (h : H d = some (.dK (deckKV l m k))) : DPut H d (.str "draws") (.int j) (upd H d (.dK (deckKV l m j))) := by
  rw [← put_turn (l := l) (m := m) (k := k) (j := j)]
  exact DPut.k (k := Sum.inr "draws") h (by show 3 < sizeLine; decide)
end
section
variable {P : Program} {w : World} {K : PySem.W.Frag} {mg : Str → Option Value} {base : Heap} {f fD : Addr} {fd fdD : FuncData}
theorem scDraw : FnScope ["deck", "many", "number", "cell"] ["deck", "many"] (defScope sDraw) := ⟨rfl, rfl, rfl, by decide +kernel, rfl, by decide +kernel, by decide +kernel⟩
theorem ok_draw (F : FnP K "_law_draw" sDraw f fd) (B : Bl mg) : FnOk P w K mg base CX0 1 f fd ["deck", "many"] spDraw := by
  refine F.ok scDraw (fun vs H Q E h => ?_) (fun cdv A outer s H vs Q E hr h => ?_)
  · obtain ⟨d, l, n, rfl, _⟩ := h
    rfl
  · obtain ⟨d, l, n, rfl, D, hn1, hn2, k⟩ := h
    have hu := hu_of hr
    have dl := D.ne
    have int1 : ∀ X : Cx, X.mg = mg → True := fun _ _ => trivial
    obtain ⟨ns, m, j, h1, h2, h3⟩ := D
    refine ⟨_, pss_cons (ps_dput hu (pv 0) pe_str (pe_op op_add (pe_dget hu (pv 0) pe_str (fun _ _ => rfl)) pe_int) rfl)
      (pss_cons (ps_set (i := 2) scDraw.nd rfl (Or.inl rfl) (pe_op op_add (pe_dget hu (pv 0) pe_str (fun _ _ => rfl)) (pe_op op_mul pe_int (pe_dget hu (pv 0) pe_str (fun _ _ => rfl)))))
      (pss_cons (ps_if (pt_cmpR (op_neD (Nat.lt_of_le_of_lt (Nat.add_le_add_left (by decide : 64 ≤ 64) _) hr.units)) (pe_dget hu (pv 0) pe_str (fun _ _ => rfl)) (pe_lst pa_nil) (nomark _))
          (pss_cons (ps_set (i := 3) scDraw.nd rfl (Or.inl rfl) (pe_bm0 PySem.F.plainAttrs_list PySem.F.slot_list_pop PySem.F.type_list_pop mt_pop (pe_dget hu (pv 0) pe_str (fun _ _ => rfl))))
          (pss_cons (ps_if (pt_cmpR op_ge (pv 3) (pe_op op_pow pe_int pe_int) (nomark _))
              (pss_cons (ps_expr (pe_bm PySem.F.plainAttrs_list PySem.F.slot_list_append PySem.F.type_list_append mt_append (pe_dget hu (pv 0) pe_str (fun _ _ => rfl)) (pa_cons (pe_op op_fdivW (pv 3) (pe_callB (call_max2 rfl) (by rfl) (B "max" (by decide +kernel)) (by decide +kernel) (pa_cons pe_int (pa_cons (pv 1) pa_nil)))) pa_nil)))
              (pss_one (ps_ret (pe_op op_mod (pe_callTy call_int1 (by rfl) (B "int" (by decide +kernel)) (by decide +kernel) (pa_cons (pv 3) pa_nil)) (pv 1)))))
              pss_nil)
          (pss_one (ps_set (i := 2) scDraw.nd rfl (Or.inl rfl) (pe_op op_add (pv 2) (pe_op op_mod (pe_callTy call_int1 (by rfl) (B "int" (by decide +kernel)) (by decide +kernel) (pa_cons (pv 3) pa_nil)) pe_int))))))
          pss_nil)
      (pss_cons (ps_set (i := 2) scDraw.nd rfl (Or.inl rfl) (pe_op op_mod (pe_callTy call_int1 (by rfl) (B "int" (by decide +kernel)) (by decide +kernel) (pa_cons (pe_op op_add (pe_op op_mul (pv 2) pe_int) pe_int) pa_nil)) pe_int))
      (pss_cons (ps_set (i := 2) scDraw.nd rfl (Or.inl rfl) (pe_op op_mod (pe_callTy call_int1 (by rfl) (B "int" (by decide +kernel)) (by decide +kernel) (pa_cons (pe_op op_add (pe_op op_add (pe_op op_mul (pv 2) (pv 2)) (pe_op op_mul pe_int (pe_dget hu (pv 0) pe_str (fun _ _ => rfl)))) pe_int) pa_nil)) pe_int))
      (pss_cons (ps_set (i := 2) scDraw.nd rfl (Or.inl rfl) (pe_op op_mod (pe_callTy call_int1 (by rfl) (B "int" (by decide +kernel)) (by decide +kernel) (pa_cons (pe_op op_mul (pv 2) pe_int) pa_nil)) pe_int))
      (pss_one (ps_ret (pe_op op_mod (pe_callTy call_int1 (by rfl) (B "int" (by decide +kernel)) (by decide +kernel) (pa_cons (pe_op op_fdiv (pv 2) pe_int) pa_nil)) (pv 1))))))))), ?_⟩
    -- deck['draws'] = deck['draws'] + 1
    refine ⟨_, rfl, d, _, rfl, get_turn h1, _, _, rfl, rfl, _, rfl, d, _, rfl, put_turnD h1, ?_⟩
    generalize hH1 : upd H d (.dK (deckKV l m (j + 1))) = H1
    have g1 : H1 d = some (.dK (deckKV l m (j + 1))) := by rw [← hH1, upd_same]
    have g2 : H1 l = some (.lst (ns.map V.int)) := by rw [← hH1, upd_ne dl.symm]; exact h2
    have kp : Keeps d l H H1 := by rw [← hH1]; exact Keeps.atD
    generalize j + 1 = j1 at g1
    -- number = deck['mixed'] + 69621 * deck['draws']
    refine ⟨_, rfl, d, _, rfl, get_mixed g1, _, rfl, d, _, rfl, get_turn g1, _, _, rfl, rfl, Or.inl ⟨by decide, by decide⟩, _, _, rfl, rfl, ?_⟩
    -- if deck['cells'] != []
    refine ⟨_, rfl, d, _, rfl, get_cells g1, (by show 0 ≤ sizeLine; omega), fun p np => ?_⟩
    have npd : d ≠ p := ne_of_none g1 np
    have npl : l ≠ p := ne_of_none g2 np
    have g1' : ∀ o, upd H1 p o d = some (.dK (deckKV l m j1)) := fun o => by rw [upd_ne npd]; exact g1
    have g2' : ∀ o, upd H1 p o l = some (.lst (ns.map V.int)) := fun o => by rw [upd_ne npl]; exact g2
    refine ⟨.list (ns.map PyData.int), .list [], .lst (SqL.of (g2' _)) (dp_ints ns), .lst (SqL.of upd_same) .nil, shaped_ints ns, shaped_ints [], _, rfl, ?_⟩
    rw [eqv_nil]
    have kp1 : Keeps d l H (upd H1 p (.lst [])) := kp.trans (.new np)
    have hn0 : 0 < n := by omega
    have popped : ∀ c : Int, ns ≠ [] → (ns.map V.int)[(ns.map V.int).length - 1]? = some (.int c) → True := fun _ _ _ => trivial
    refine ite2 (fun hne => ?_) (fun he => ?_)
    · have hne' : ns ≠ [] := by
        intro z
        rw [z] at hne
        simp at hne
      have hpos : 0 < ns.length := List.length_pos_iff.mpr hne'
      obtain ⟨c, hc⟩ : ∃ c, (ns.map V.int)[(ns.map V.int).length - 1]? = some (.int c) := by
        rw [List.length_map, List.getElem?_map, List.getElem?_eq_getElem (by omega)]
        exact ⟨_, rfl⟩
      -- cell = deck['cells'].pop()
      refine ⟨_, rfl, d, _, rfl, get_cells (g1' _), Or.inl ⟨rfl, _, SqL.of (g2' _)⟩, l, _, _, rfl, rfl, g2' _, hc, ?_⟩
      generalize hH3 : upd (upd H1 p (.lst [])) l (.lst (ns.map V.int).dropLast) = H3
      have q1 : H3 d = some (.dK (deckKV l m j1)) := by rw [← hH3, upd_ne dl]; exact g1' _
      have q2 : H3 l = some (.lst (ns.dropLast.map V.int)) := by rw [← hH3, upd_same, List.map_dropLast]
      have kp3 : Keeps d l H H3 := by rw [← hH3]; exact kp1.trans .atL
      have hlen : (ns.dropLast).length + 1 ≤ 63 := by rw [List.length_dropLast]; omega
      -- if cell >= 10 ** 18
      refine ⟨_, rfl, _, _, rfl, rfl, ⟨by decide, by decide, by decide⟩, _, _, rfl, rfl, _, rfl, ite2 (fun _ => ?_) (fun _ => ?_)⟩
      · refine ⟨_, rfl, d, _, rfl, get_cells q1, Or.inl ⟨rfl, _, SqL.of q2⟩, _, rfl, _, rfl, _, _, rfl, _, _, rfl, rfl, ⟨by split <;> omega, (Nat.log2_lt (by split <;> omega)).mpr (Nat.lt_of_lt_of_le (show _ < 2 ^ 40 by split <;> omega) (Nat.pow_le_pow_right (by decide) (by decide)))⟩, l, _, _, rfl, rfl, q2, small1000 (by rw [List.length_map]; omega), ?_⟩
        refine ⟨_, rfl, Or.inl ⟨_, rfl, _, rfl, _, _, rfl, rfl, hn0, k _ _ (Int.emod_nonneg _ (by omega)) (Int.emod_lt_of_pos _ hn0) ⟨ns.dropLast ++ [c / (if n > 2 then n else 2)], m, j1, by rw [upd_ne dl]; exact q1, by rw [upd_same, List.map_append]; rfl, by rw [List.length_append]; exact hlen⟩ (kp3.trans .atL)⟩⟩
      · refine ⟨_, rfl, _, rfl, Or.inl ⟨_, rfl, _, _, rfl, rfl, (by show (0 : Int) < 2147483629; decide), _, _, rfl, rfl, ?_⟩⟩
        refine ⟨_, rfl, _, _, rfl, rfl, Or.inr ⟨by decide, by decide⟩, _, _, rfl, rfl, Or.inl ⟨_, rfl, _, _, rfl, rfl, (by show (0 : Int) < 2147483647; decide), ?_⟩⟩
        refine ⟨_, rfl, _, rfl, _, _, rfl, rfl, Or.inl ⟨by omega, by omega⟩, _, rfl, d, _, rfl, get_turn q1, _, _, rfl, rfl, Or.inl ⟨by decide, by decide⟩, _, _, rfl, rfl, _, _, rfl, rfl, Or.inl ⟨_, rfl, _, _, rfl, rfl, (by show (0 : Int) < 2147483587; decide), ?_⟩⟩
        refine ⟨_, rfl, _, _, rfl, rfl, Or.inr ⟨by decide, by decide⟩, Or.inl ⟨_, rfl, _, _, rfl, rfl, (by show (0 : Int) < 2147483563; decide), ?_⟩⟩
        exact ⟨_, rfl, _, _, rfl, rfl, ⟨by decide, by decide⟩, Or.inl ⟨_, rfl, _, rfl, _, _, rfl, rfl, hn0, k _ _ (Int.emod_nonneg _ (by omega)) (Int.emod_lt_of_pos _ hn0) ⟨ns.dropLast, m, j1, q1, q2, by omega⟩ kp3⟩⟩
    · refine ⟨_, rfl, _, _, rfl, rfl, Or.inr ⟨by decide, by decide⟩, _, _, rfl, rfl, Or.inl ⟨_, rfl, _, _, rfl, rfl, (by show (0 : Int) < 2147483647; decide), ?_⟩⟩
      refine ⟨_, rfl, _, rfl, _, _, rfl, rfl, Or.inl ⟨by omega, by omega⟩, _, rfl, d, _, rfl, get_turn (g1' _), _, _, rfl, rfl, Or.inl ⟨by decide, by decide⟩, _, _, rfl, rfl, _, _, rfl, rfl, Or.inl ⟨_, rfl, _, _, rfl, rfl, (by show (0 : Int) < 2147483587; decide), ?_⟩⟩
      refine ⟨_, rfl, _, _, rfl, rfl, Or.inr ⟨by decide, by decide⟩, Or.inl ⟨_, rfl, _, _, rfl, rfl, (by show (0 : Int) < 2147483563; decide), ?_⟩⟩
      exact ⟨_, rfl, _, _, rfl, rfl, ⟨by decide, by decide⟩, Or.inl ⟨_, rfl, _, rfl, _, _, rfl, rfl, hn0, k _ _ (Int.emod_nonneg _ (by omega)) (Int.emod_lt_of_pos _ hn0) ⟨ns, m, j1, g1' _, g2' _, h3⟩ kp1⟩⟩
end
end K45

namespace K45
open PySem PySem.Spec PyProof.Rows L2
theorem cut_ints (ns : List Int) (lo hi : Option Int) : ∃ ms : List Int, cutV (ns.map V.int) lo hi = ms.map V.int ∧ ms.length ≤ ns.length := by
  unfold cutV
  rw [← List.map_drop, ← List.map_take]
  exact ⟨_, rfl, by rw [List.length_take, List.length_drop]; omega⟩
section
variable {P : Program} {w : World} {K : PySem.W.Frag} {mg : Str → Option Value} {base : Heap} {f fD : Addr} {fd fdD : FuncData}
theorem scPick : FnScope ["deck", "some"] ["deck", "some"] (defScope sPick) := ⟨rfl, rfl, rfl, by decide +kernel, rfl, by decide +kernel, by decide +kernel⟩
theorem ok_pick (F : FnP K "_law_pick" sPick f fd) (FD : FnP K "_law_draw" sDraw fD fdD) (gD : mg "_law_draw" = some (.ref fD)) (B : Bl mg) : FnOk P w K mg base CX0 2 f fd ["deck", "some"] (spPick K) := by
  have GD : FnOk P w K mg base CX0 1 fD fdD ["deck", "many"] spDraw := ok_draw FD B
  have bD : Binds K fdD ["deck", "many"] [] := FD.bindsN fun _ _ _ _ _ _ us hl => match us, hl with | [_, _], _ => rfl
  refine F.ok scPick (fun vs H Q E h => ?_) (fun cdv A outer s H vs Q E hr h => ?_)
  · obtain ⟨d, l, p, xs, rfl, _⟩ := h
    rfl
  · obtain ⟨d, l, p, xs, rfl, D, hp, hpl, h1, h2, k⟩ := h
    have dp : p ≠ d := by
      obtain ⟨ns, m, j, q, _⟩ := D
      exact ne_of hp q (by intro z; cases z)
    refine ⟨_, PSs.nox (pss_one (ps_ret (pe_ix ix_list (pv 1) (pe_call GD hr rfl gD FD.kp bD .nil pass0 (pa_cons (pv 0) (pa_cons (pe_callB call_len_seq (by rfl) (B "len" (by decide +kernel)) PySem.boot_len (pa_cons (pv 1) pa_nil)) pa_nil))) (fun _ _ => rfl)))), ?_⟩
    refine ⟨_, rfl, _, rfl, _, rfl, p, _, rfl, .inl (SqL.of hp), d, l, _, rfl, D, by omega, by omega, fun r H' r0 r1 D' K' => ?_⟩
    obtain ⟨j, rfl⟩ := Int.eq_ofNat_of_zero_le r0
    have hj : j < xs.length := by omega
    exact ⟨p, _, _, _, rfl, rfl, SqL.of (K' _ _ hp dp hpl), atI_nat (List.getElem?_eq_getElem hj), k _ H' (List.getElem_mem hj) D' K'⟩
end
end K45

namespace K45
open PySem PySem.Spec PyProof.Rows L2
section
variable {P : Program} {w : World} {K : PySem.W.Frag} {mg : Str → Option Value} {base : Heap} {f fD : Addr} {fd fdD : FuncData}
theorem scDeck : FnScope ["script", "stirred", "cell"] ["script"] (defScope sDeck) := ⟨rfl, rfl, rfl, by decide +kernel, rfl, by decide +kernel, by decide +kernel⟩
theorem merge_deck (l : Addr) (m k : Int) : mergeK [] (deckKV l m k) = deckKV l m k := rfl
theorem ok_deck (F : FnP K "_law_deck" sDeck f fd) (B : Bl mg) : FnOk P w K mg base CX0 1 f fd ["script"] (spDeck K) := by
  refine F.ok scDeck (fun vs H Q E h => ?_) (fun cdv A outer s H vs Q E hr h => ?_)
  · obtain ⟨a, ns, rfl, _⟩ := h
    rfl
  · obtain ⟨a, ns, rfl, hS, hlen, k⟩ := h
    refine ⟨_, PSs.nox (pss_cons (ps_set (i := 1) scDeck.nd rfl (Or.inl rfl) pe_int)
      (pss_cons (ps_for PassesOwn.never rfl (pi_list (pe_slice sl_list (pv 0) po_none (po_some pe_int))) (pg_name (i := 2) scDeck.nd rfl (Or.inl rfl))
        (pss_one (ps_set (i := 1) scDeck.nd rfl (Or.inl rfl) (pe_op op_mod (pe_callTy call_int1 (by rfl) (B "int" (by decide +kernel)) (by decide +kernel) (pa_cons (pe_op op_add (pe_op op_add (pe_op op_mul (pv 1) pe_int) (pe_op op_mod (pe_callTy call_int1 (by rfl) (B "int" (by decide +kernel)) (by decide +kernel) (pa_cons (pv 2) pa_nil)) pe_int)) pe_int) pa_nil)) pe_int))))
      (pss_one (ps_ret (pe_disp (pps_cons pe_str (pe_revL (pe_callTy call_list_of (by rfl) (B "list" (by decide +kernel)) (by decide +kernel) (pa_cons (pe_slice sl_list (pv 0) po_none (po_some pe_int)) pa_nil))) (pps_cons pe_str (pv 1) (pps_cons pe_str pe_int pps_nil))) (by rfl) (by rfl) (fun z => by cases z) (by decide)))))), ?_⟩
    obtain ⟨ms, hms, hml⟩ := cut_ints ns none (some 63)
    have hm63 : ms.length ≤ 63 := Nat.le_trans hml hlen
    refine ⟨_, rfl, _, rfl, a, _, rfl, hS, fun p np => ?_⟩
    rw [hms]
    have s1 : Same H (upd H p (.lst (ms.map V.int))) := fun b o e => by
      rw [upd_ne (ne_of_none e np)]
      exact e
    generalize hH1 : upd H p (.lst (ms.map V.int)) = H1 at s1
    have hp : H1 p = some (.lst (ms.map V.int)) := by rw [← hH1, upd_same]
    refine ⟨p, rfl, ⟨_, SqL.of hp⟩, for_list (K := K) (a := p) (xs := ms.map V.int) (fun i σ H2 => ∃ (z : Int) (v : Option V), σ = [some (.ref a), some (.int z), v] ∧ H2 = H1) ⟨_, none, rfl, rfl⟩ (fun i σ H2 _ ⟨_, _, _, e⟩ => by rw [e]; exact SqL.of hp) ?_ ?_⟩
    · rintro i y σ H2 hi ⟨z, v, rfl, rfl⟩
      obtain ⟨c, rfl⟩ : ∃ c, y = V.int c := by
        rw [List.getElem?_map] at hi
        cases e : ms[i]? with
        | none =>
          rw [e] at hi
          cases hi
        | some c =>
          rw [e] at hi
          exact ⟨c, (Option.some.inj hi).symm⟩
      refine ⟨_, rfl, _, _, rfl, rfl, Or.inr ⟨by decide, by decide⟩, _, rfl, Or.inl ⟨_, rfl, _, _, rfl, rfl, (by show (0 : Int) < 2147483629; decide), _, _, rfl, rfl, _, _, rfl, rfl, Or.inl ⟨_, rfl, _, _, rfl, rfl, (by show (0 : Int) < 2147483587; decide), ?_⟩⟩⟩
      exact ⟨_, _, rfl, rfl⟩
    · rintro σ H2 ⟨z, v, rfl, rfl⟩
      intro d nd
      refine ⟨_, rfl, _, rfl, a, ns.map V.int, rfl, ?_, fun q nq => ?_⟩
      · have s2 : Same H2 (upd H2 d (.dK [])) := fun b o e => by
          rw [upd_ne (ne_of_none e nd)]
          exact e
        exact s2.seq (s1.seq hS)
      rw [hms]
      generalize hH3 : upd (upd H2 d (.dK [])) q (.lst (ms.map V.int)) = H3
      have s23 : Same H2 H3 := by
        rw [← hH3]
        exact same_new (same_upd nd) nq
      have h3q : H3 q = some (.lst (ms.map V.int)) := by rw [← hH3, upd_same]
      have h3d : H3 d = some (.dK []) := by
        rw [← hH3, upd_ne (ne_of_none (upd_same (H := H2)) nq)]
        exact upd_same
      refine ⟨q, _, rfl, .inl (SqL.of h3q), fun D hD => ?_⟩
      have s4 : Same H3 (upd H3 D (.lst (ms.map V.int))) := same_upd hD
      generalize hH4 : upd H3 D (.lst (ms.map V.int)) = H4 at s4
      have h4 : H4 D = some (.lst (ms.map V.int)) := by rw [← hH4, upd_same]
      refine ⟨D, _, rfl, SqL.of h4, fun l nl => ?_⟩
      have h5d : upd H4 l (.lst (ms.map V.int).reverse) d = some (.dK []) := by
        rw [upd_ne (ne_of_none (s4 _ _ h3d) nl)]
        exact s4 _ _ h3d
      have dl : l ≠ d := ne_of (upd_same (H := H4)) h5d (by intro z; cases z)
      refine ⟨_, rfl, h5d, deckKV l z 0, rfl, (by show 3 ≤ 15; decide), ?_⟩
      rw [merge_deck]
      have s15 : Same H (upd H4 l (.lst (ms.map V.int).reverse)) := same_new ((s1.trans s23).trans s4) nl
      refine k d l _ ⟨ms.reverse, z, 0, upd_same, ?_, by rw [List.length_reverse]; exact hm63⟩ (fun b o e => ?_) (s1.free nd) (((s1.trans s23).trans s4).free nl)
      · rw [upd_ne dl, upd_same, List.map_reverse]
      · rw [upd_ne (ne_of_none (s1 b o e) nd)]
        exact s15 b o e
end
end K45

namespace K45
open PySem PySem.Spec PyProof.Rows L2
abbrev rInt1 : List V → Hp → VK → Prop := fun xs H Q => (∃ i, xs = [.int i] ∧ Q (.int i) H) ∨ ∃ k, xs = [.bl k] ∧ Q (.int (if k then 1 else 0)) H
theorem gcdI_zero {a : Int} (h : 0 ≤ a) : gcdI a 0 = a := by
  unfold gcdI
  simp
  omega
theorem gcdI_step {a b : Int} (ha : 0 ≤ a) (hb : 0 < b) : gcdI b (a % b) = gcdI a b := by
  obtain ⟨m, rfl⟩ := Int.eq_ofNat_of_zero_le ha
  obtain ⟨n, rfl⟩ := Int.eq_ofNat_of_zero_le (show 0 ≤ b by omega)
  unfold gcdI
  have e : ((m : Int) % (n : Int)).natAbs = m % n := by
    rw [← Int.natCast_emod]
    rfl
  show ((Nat.gcd n ((m : Int) % (n : Int)).natAbs : Nat) : Int) = ((Nat.gcd m n : Nat) : Int)
  rw [e, Nat.gcd_comm n, ← Nat.gcd_rec, Nat.gcd_comm]
theorem gcdI_abs (a b : Int) : gcdI (if a < 0 then -a else a) (if b < 0 then -b else b) = gcdI a b := by
  unfold gcdI
  congr 2
  · split <;> omega
  · split <;> omega
section
variable {P : Program} {w : World} {K : PySem.W.Frag} {mg : Str → Option Value} {base : Heap} {f f1 f2 f3 f4 f5 : Addr} {fd fd1 fd2 fd3 fd4 fd5 : FuncData}
/-! ### _law_common -/
def spGcd : Sp := fun vs H Q _ => ∃ a b : Int, vs = [.int a, .int b] ∧ Q (.int (gcdI a b)) H
theorem scGcd : FnScope ["one", "other"] ["one", "other"] (defScope sLDiv) := ⟨rfl, rfl, rfl, by decide +kernel, rfl, by decide +kernel, by decide +kernel⟩
theorem ok_gcd (F : FnP K "_law_divisor" sLDiv f fd) (B : Bl mg) : FnOk P w K mg base CX0 1 f fd ["one", "other"] spGcd := by
  refine F.ok scGcd (fun vs H Q E h => ?_) (fun cdv A outer s H vs Q E hr h => ?_)
  · obtain ⟨a, b, rfl, _⟩ := h
    rfl
  · obtain ⟨a, b, rfl, k⟩ := h
    refine ⟨_, PSs.nox (pss_cons (ps_par (i := 0) (j := 1) rfl scGcd.nd rfl rfl (by decide) rfl rfl (pa_cons (pe_callB call_abs (by rfl) (B "abs" (by decide +kernel)) (by decide +kernel) (pa_cons (pv 0) pa_nil)) (pa_cons (pe_callB call_abs (by rfl) (B "abs" (by decide +kernel)) (by decide +kernel) (pa_cons (pv 1) pa_nil)) pa_nil)) rfl)
      (pss_cons (ps_while PassesOwn.never (pt_cmpR op_ne (pv 1) pe_int (nomark _))
        (pss_one (ps_par (i := 0) (j := 1) rfl scGcd.nd rfl rfl (by decide) rfl rfl (pa_cons (pv 1) (pa_cons (pe_op op_mod (pe_callTy call_int1 (by rfl) (B "int" (by decide +kernel)) (by decide +kernel) (pa_cons (pv 0) pa_nil)) (pv 1)) pa_nil)) rfl)))
      (pss_one (ps_ret (pv 0))))), ?_⟩
    refine ⟨_, rfl, a, rfl, _, rfl, b, rfl, _, _, rfl, ?_⟩
    refine while_by (fun σ H2 => ∃ x y : Int, σ = [some (.int x), some (.int y)] ∧ H2 = H ∧ 0 ≤ x ∧ 0 ≤ y ∧ gcdI x y = gcdI a b) (fun σ _ => match σ with | [_, some (.int y)] => y.toNat | _ => 0) ⟨_, _, rfl, rfl, by split <;> omega, by split <;> omega, gcdI_abs a b⟩ ?_ ?_
    · rintro σ H2 ⟨x, y, rfl, rfl, hx, hy, hg⟩
      refine ⟨_, rfl, rfl, _, rfl, ?_⟩
      refine ite2 (fun c => ?_) (fun c => ?_)
      · have c1 : y ≠ 0 := fun z => by
          rw [z] at c
          simp at c
        have hy2 : 0 < y := by omega
        have m0 := Int.emod_nonneg x c1
        have m1 := Int.emod_lt_of_pos x hy2
        refine ⟨_, rfl, _, rfl, Or.inl ⟨_, rfl, _, rfl, _, _, rfl, rfl, hy2, _, _, rfl, ?_⟩⟩
        refine ⟨⟨y, x % y, rfl, rfl, hy, m0, by rw [gcdI_step hx hy2]; exact hg⟩, ?_⟩
        show (x % y).toNat < y.toNat
        omega
      · have c1 : y = 0 := by
          by_cases z : y = 0
          · exact z
          · exact absurd (by simp [z]) c
        subst c1
        refine ⟨_, rfl, ?_⟩
        have e : x = gcdI a b := by rw [← hg, gcdI_zero hx]
        rw [e]
        exact k
    · intro σ H2 Q1 Q2 hq hc
      obtain ⟨v, e1, e2, kk, e3, e4⟩ := hc
      exact ⟨v, e1, e2, kk, e3, hq _ _ e4⟩
theorem rr_ord2 : ∀ r ∈ RR, ∀ i ∈ List.range r.length, 1 ≤ gcdI (ordL (r.take i)) (r.getD i 0) ∧ gcdI (ordL (r.take i)) (r.getD i 0) ≤ 60 ∧ 1 ≤ ordL (r.take i) ∧ ordL (r.take i) ≤ 60 ∧ ordL (r.take i) * r.getD i 0 / gcdI (ordL (r.take i)) (r.getD i 0) = ordL (r.take (i + 1)) ∧ 1 ≤ r.getD i 0 ∧ r.getD i 0 ≤ 60 := by decide +kernel
def spLOrder (K : PySem.W.Frag) : Sp := fun vs H Q _ => ∃ (v : V) (r : List Int), vs = [v] ∧ TupI K H v r ∧ r ∈ RR ∧ ∀ H', Same H H' → Q (.int (ordL r)) H'
theorem scLOrder : FnScope ["rings", "found", "size"] ["rings"] (defScope sLOrder) := ⟨rfl, rfl, rfl, by decide +kernel, rfl, by decide +kernel, by decide +kernel⟩
theorem ok_lOrder (F : FnP K "_law_order" sLOrder f fd) (F1 : FnP K "_law_divisor" sLDiv f1 fd1) (g1 : mg "_law_divisor" = some (.ref f1)) (G1 : FnOk P w K mg base CX0 1 f1 fd1 ["one", "other"] spGcd) : FnOk P w K mg base CX0 2 f fd ["rings"] (spLOrder K) := by
  have b1 : Binds K fd1 ["one", "other"] [] := F1.bindsN fun _ _ _ _ _ _ us hl => match us, hl with | [_, _], _ => rfl
  refine F.ok scLOrder (fun vs H Q E h => ?_) (fun cdv A outer s H vs Q E hr h => ?_)
  · obtain ⟨v, r, rfl, _⟩ := h
    rfl
  · obtain ⟨v, r, rfl, ⟨a, rfl, ha⟩, h14, k⟩ := h
    refine ⟨_, PSs.nox (pss_cons (ps_set (i := 1) scLOrder.nd rfl (Or.inl rfl) pe_int)
      (pss_cons (ps_for PassesOwn.never rfl (pi_tup (pv 0)) (pg_name (i := 2) scLOrder.nd rfl (Or.inl rfl)) (pss_one (ps_set (i := 1) scLOrder.nd rfl (Or.inl rfl) (pe_op op_fdiv (pe_op op_mul (pv 1) (pv 2)) (pe_call G1 hr rfl g1 F1.kp b1 .nil pass0 (pa_cons (pv 1) (pa_cons (pv 2) pa_nil)))))))
      (pss_one (ps_ret (pv 1))))), ?_⟩
    refine ⟨_, rfl, a, rfl, ⟨_, ha⟩, for_tup (K := K) (a := a) (xs := r.map V.int) (fun i σ H2 => ∃ u, σ = [some (.ref a), some (.int (ordL (r.take i))), u] ∧ H2 = H) ⟨none, rfl, rfl⟩ (fun i σ H2 _ ⟨_, _, e⟩ => by rw [e]; exact ha) ?_ ?_⟩
    · rintro i y σ H2 hi ⟨u, rfl, rfl⟩
      obtain ⟨n, rfl, hn⟩ := getI hi
      have z := rr_ord2 r h14 i (List.mem_range.mpr (ltL hn))
      have e1 : r.getD i 0 = n := by rw [List.getD_eq_getElem?_getD, hn]; rfl
      rw [e1] at z
      refine ⟨_, rfl, _, rfl, _, _, rfl, rfl, Or.inl ⟨by omega, by omega⟩, _, rfl, _, rfl, _, _, rfl, ?_⟩
      refine ⟨_, _, rfl, rfl, ⟨by omega, by omega⟩, ?_⟩
      refine ⟨some (.int n), ?_, rfl⟩
      rw [← z.2.2.2.2.1]
      rfl
    · rintro σ H2 ⟨u, rfl, rfl⟩
      rw [List.length_map, List.take_length]
      exact ⟨_, rfl, k H2 (Same.refl _)⟩
end
end K45

/-! The law's places. -/
namespace K45
open PySem PySem.Spec PyProof.Rows L2
theorem rf_append (k6 k5 : List (Addr × List Int)) : rf (k6 ++ k5) = rf k6 ++ rf k5 := by simp [rf]
section
variable {P : Program} {w : World} {K : PySem.W.Frag} {mg : Str → Option Value} {base : Heap} {f f1 f2 f3 f4 f5 : Addr} {fd fd1 fd2 fd3 fd4 fd5 : FuncData}
def spLPl (K : PySem.W.Frag) : Sp := fun vs H Q _ => ∃ (v : V) (r : List Int), vs = [v] ∧ TupI K H v r ∧ r ∈ RR ∧ ∀ l H', Same H H' → PlL K H' l (placesL r) → Q (.ref l) H'
abbrev plN : List Str := ["rings", "found", "size", "later", "place", "i"]
theorem scLPl : FnScope plN ["rings"] (defScope sLPlaces) := ⟨rfl, rfl, rfl, by decide +kernel, rfl, by decide +kernel, by decide +kernel⟩
theorem ok_lPl (F : FnP K "_law_places" sLPlaces f fd) (B : Bl mg) : FnOk P w K mg base CX0 1 f fd ["rings"] (spLPl K) := by
  refine F.ok scLPl (fun vs H Q E h => ?_) (fun cdv A outer s H vs Q E hr h => ?_)
  · obtain ⟨v, r, rfl, _⟩ := h
    rfl
  · obtain ⟨v, r, rfl, ⟨a, rfl, ha⟩, h14, k⟩ := h
    refine ⟨_, PSs.nox (pss_cons (ps_set (i := 1) scLPl.nd rfl (Or.inl rfl) (pe_lst (pa_cons (pe_tup pa_nil) pa_nil)))
      (pss_cons (ps_for PassesOwn.never rfl (pi_tup (pv 0)) (pg_name (i := 2) scLPl.nd rfl (Or.inl rfl))
        (pss_cons (ps_set (i := 3) scLPl.nd rfl (Or.inl rfl) (pe_lst pa_nil))
        (pss_cons (ps_for PassesOwn.never rfl (pi_list (pv 1)) (pg_name (i := 4) scLPl.nd rfl (Or.inr rfl))
          (pss_one (ps_expr (pe_bm PySem.F.plainAttrs_list PySem.F.slot_list_extend PySem.F.type_list_extend mt_extend (pv 3) (pa_cons
            (pe_lc (own := [("i", 5)]) (g := gName 5) (tt := tYes) (te := tOp (rCatA K) (tVar 4) (tTup (tCons (tVar 5) tNil))) rfl scLPl.nd (pi_range1 rfl (B "range" (by decide +kernel)) (pa_cons (pv 2) pa_nil))
              (blkOk_by (own := [("i", 5)]) (N := plN) (sc := defScope sLPlaces) (by decide +kernel)) (fun _ _ _ _ _ => pg_name (i := 5) scLPl.nd rfl (Or.inl rfl)) (fun _ _ _ _ _ => pts_nil) (fun _ _ _ _ _ => pe_op op_catA (pv 4) (pe_tup (pa_cons (pv 5) pa_nil)))) pa_nil)))))
        (pss_one (ps_set (i := 1) scLPl.nd rfl (Or.inl rfl) (pv 3))))))
      (pss_one (ps_ret (pv 1))))), ?_⟩
    have hn := rr_len r h14
    refine ⟨by decide, fun t ht => ⟨by show 1 ≤ sizeLine; decide, fun L hL => ?_⟩⟩
    have s3 : Same H (upd (upd H t (.tup [])) L (.lst [.ref t])) := same_new (same_upd ht) hL
    refine ⟨_, rfl, a, rfl, ⟨_, s3.tup ha⟩, for_tup (K := K) (a := a) (xs := r.map V.int) (fun i σ H3 => ∃ (l : Addr) (u v z : Option V), σ = [some (.ref a), some (.ref l), u, v, z, none] ∧ Same H H3 ∧ PlL K H3 l (placesL (r.take i)))
      ⟨L, none, none, none, rfl, s3, [(t, [])], upd_same, rfl, ⟨fun p hp => by rw [List.mem_singleton.mp hp]; exact same_upd hL _ _ upd_same⟩⟩ (fun i σ H3 _ ⟨_, _, _, _, _, z, _⟩ => z.tup ha) ?_ ?_⟩
    · rintro i y σ H3 hi ⟨l, u1, v1, z1, rfl, s4, ks, hk, em, tk⟩
      obtain ⟨c, rfl, hc⟩ := getI hi
      have cb := rr_pos r h14 c (List.mem_of_getElem? hc)
      have hlt := ltL hc
      have l1 := rr_pl r h14 i (List.mem_range.mpr (by omega))
      refine ⟨by decide, fun G hG => ?_⟩
      have nG : H G = none := s4.free hG
      have s5 : Same H3 (upd H3 G (.lst [])) := same_upd hG
      refine ⟨_, rfl, l, rfl, ⟨_, SqL.of (s5 _ _ hk)⟩, for_list (K := K) (a := l) (xs := rf ks) (fun m σ H4 => ∃ z, σ = [some (.ref a), some (.ref l), some (.int c), some (.ref G), z, none] ∧ Same H3 H4 ∧ PlL K H4 G (plStep ((placesL (r.take i)).take m) c)) ⟨z1, rfl, s5, [], upd_same, rfl, tp_nil⟩ (fun m σ H4 _ ⟨_, _, z, _⟩ => SqL.of (z _ _ hk)) ?_ ?_⟩
      · rintro m y σ H4 hm ⟨z, rfl, s6, k6, h6, e6, t6⟩
        obtain ⟨q, rfl, hq⟩ := getR hm
        have hq2 := map_get em hq
        have tq := tk q (List.mem_of_getElem? hq)
        have zl := rr_plen r h14 i (List.mem_range.mpr (by omega)) _ (List.mem_of_getElem? hq2)
        have ml : m < 60 := Nat.lt_of_lt_of_le (ltL hq2) l1
        refine ⟨_, rfl, Or.inl ⟨rfl, _, SqL.of h6⟩, ?_⟩
        refine ⟨_, rfl, c, rfl, by omega, by omega, fun D hD => ?_⟩
        refine lc_range (lo := 0) (n := c.toNat) (fun j H5 => Same H4 H5 ∧ ∃ k5, H5 D = some (.lst (rf k5)) ∧ k5.map (·.2) = (rgL 0 j).map (fun x => q.2 ++ [x]) ∧ TP K H5 k5) ⟨same_upd hD, [], upd_same, rfl, tp_nil⟩ ?_ ?_
        · rintro j H5 hj ⟨s7, k5, h5, e5, t5⟩
          have l5 : k5.length = j := by
            have z := congrArg List.length e5
            rw [List.length_map, List.length_map, rgL_len] at z
            exact z
          refine ⟨rfl, _, rfl, _, rfl, by show 1 ≤ sizeLine; decide, fun p hp => ?_⟩
          have s8 : Same H5 (upd H5 p (.tup [.int (0 + (j : Int))])) := same_upd hp
          have tq5 : SqT K (upd H5 p (.tup [.int (0 + (j : Int))])) q.1 (q.2.map V.int) := ((s6.trans s7).trans s8).tup tq
          have h5p : upd H5 p (.tup [.int (0 + (j : Int))]) D = some (.lst (rf k5)) := s8 _ _ h5
          refine ⟨q.1, p, _, _, rfl, rfl, tq5, SqT.of upd_same, sl_1000 (by simp; omega), fun en => ?_, fun _ e => absurd e (by simp), fun en _ p2 hp2 => ?_⟩
          · have e0 : q.2 = [] := by simpa using en
            refine ⟨_, h5p, sl_lt (by rw [List.length_map]; omega), same_at (s7.trans s8) hD, k5 ++ [(p, q.2 ++ [0 + (j : Int)])], ?_, ?_, tp_at (tp_snoc (tp_same s8 t5) (by rw [e0]; exact upd_same)) h5p⟩
            · rw [upd_same, rf_snoc]
            · rw [List.map_append, e5, rgL_succ, List.map_append]
              rfl
          · have s9 : Same (upd H5 p (.tup [.int (0 + (j : Int))])) (upd (upd H5 p (.tup [.int (0 + (j : Int))])) p2 (.tup (q.2.map V.int ++ [.int (0 + (j : Int))]))) := same_upd hp2
            have h52 := s9 _ _ h5p
            refine ⟨_, h52, sl_lt (by rw [List.length_map]; omega), same_at ((s7.trans s8).trans s9) hD, k5 ++ [(p2, q.2 ++ [0 + (j : Int)])], ?_, ?_, tp_at (tp_snoc (tp_same (s8.trans s9) t5) (by rw [upd_same, List.map_append]; rfl)) h52⟩
            · rw [upd_same, rf_snoc]
            · rw [List.map_append, e5, rgL_succ, List.map_append]
              rfl
        · rintro H5 ⟨s7, k5, h5, e5, t5⟩
          have l5 : k5.length = c.toNat := by
            have z := congrArg List.length e5
            rw [List.length_map, List.length_map, rgL_len] at z
            exact z
          have l6 : k6.length ≤ 3600 := by
            have z := congrArg List.length e6
            rw [List.length_map, plStep_len] at z
            have z2 : ((placesL (r.take i)).take m).length ≤ 60 := Nat.le_trans (List.length_take_le' _ _) l1
            have z3 : ((placesL (r.take i)).take m).length * c.toNat ≤ 60 * 60 := Nat.mul_le_mul z2 (by omega)
            omega
          have hGne : H3 G = none := hG
          refine ⟨G, D, _, _, rfl, rfl, s7 _ _ h6, h5, sl_1000 (by rw [List.length_map, List.length_map]; omega), ?_⟩
          refine ⟨_, rfl, same_at (s6.trans s7) hG, k6 ++ k5, ?_, ?_, tp_at ⟨fun p hp => ?_⟩ (s7 _ _ h6)⟩
          · rw [upd_same, rf_append]
          · rw [List.map_append, e6, e5, plStep_take hq2]
          · rcases List.mem_append.mp hp with z | z
            · exact s7 _ _ (t6.out p z)
            · exact t5.out p z
      · rintro σ H4 ⟨z, rfl, s6, P6⟩
        have e6 : (rf ks).length = (placesL (r.take i)).length := by rw [← em, List.length_map, List.length_map]
        rw [e6, List.take_length] at P6
        refine ⟨_, rfl, G, _, _, _, rfl, s4.trans s6, ?_⟩
        rw [pl_take hc]
        exact P6
    · rintro σ H3 ⟨l, u1, v1, z1, rfl, s4, P4⟩
      rw [List.length_map, List.take_length] at P4
      exact ⟨_, rfl, k l H3 s4 P4⟩
end
end K45

/-! The law's rings. -/
namespace K45
open PySem PySem.Spec PyProof.Rows L2
/-! ### decks and floors -/
theorem deck_ref {d l : Addr} {H : Hp} (D : DeckAt d l H) : (∃ m k, H d = some (.dK (deckKV l m k))) ∧ ∃ ns : List Int, H l = some (.lst (ns.map V.int)) := by
  obtain ⟨ns, m, k, h1, h2, _⟩ := D
  exact ⟨⟨m, k, h1⟩, ns, h2⟩
theorem _root_.L2.Same.deck {d l : Addr} {H H' : Hp} (s : Same H H') (D : DeckAt d l H) : DeckAt d l H' := by
  obtain ⟨ns, m, k, h1, h2, h3⟩ := D
  exact ⟨ns, m, k, s _ _ h1, s _ _ h2, h3⟩
section
variable {K : PySem.W.Frag} {d l : Addr} {H H' : Hp}
theorem Keeps.sqt (k : Keeps d l H H') (D : DeckAt d l H) {a : Addr} {xs : List V} (h : SqT K H a xs) : SqT K H' a xs := by
  obtain ⟨⟨m, j, h1⟩, ns, h2⟩ := deck_ref D
  rcases h with h | h
  · rcases h with h | ⟨o, h⟩
    · exact .inl (.inl (k _ _ h (ne_of h h1 (by intro z; cases z)) (ne_of h h2 (by intro z; cases z))))
    · exact .inl (.inr ⟨o, k _ _ h (ne_of h h1 (by intro z; cases z)) (ne_of h h2 (by intro z; cases z))⟩)
  · exact .inr h
theorem Keeps.tupI (k : Keeps d l H H') (D : DeckAt d l H) {v : V} {ns : List Int} (h : TupI K H v ns) : TupI K H' v ns := by
  obtain ⟨t, rfl, q⟩ := h
  exact ⟨t, rfl, k.sqt D q⟩
/-- such a tuple, as it is -/
def TupP (H : Hp) (v : V) (ns : List Int) : Prop := ∃ a, v = .ref a ∧ H a = some (.tup (ns.map V.int))
theorem TupP.i {K : PySem.W.Frag} {H : Hp} {v : V} {ns : List Int} (h : TupP H v ns) : TupI K H v ns := by
  obtain ⟨a, rfl, e⟩ := h
  exact ⟨a, rfl, SqT.of e⟩
theorem Keeps.tp0 {d l a : Addr} {H H' : Hp} {xs : List V} (k : Keeps d l H H') (D : DeckAt d l H) (e : H a = some (.tup xs)) : H' a = some (.tup xs) := by
  obtain ⟨⟨m, j, h1⟩, ns, h2⟩ := deck_ref D
  exact k _ _ e (ne_of e h1 (by intro z; cases z)) (ne_of e h2 (by intro z; cases z))
end
def tInts : List Int → TA
  | [] => tNil
  | n :: ns => tCons (tC (.int n)) (tInts ns)
def tTups : List (List Int) → TA
  | [] => tNil
  | r :: rs => tCons (tTup (tInts r)) (tTups rs)
theorem ints_ok : ∀ {ns : List Int} {σ : L2.St} {H : Hp} {Q : List V → Hp → Prop}, Q (ns.map V.int) H → tInts ns σ H Q
  | [], _, _, _, q => q
  | n :: ns, σ, H, Q, q => ints_ok (ns := ns) (Q := fun vs H1 => Q (.int n :: vs) H1) q
theorem tups_ok {K : PySem.W.Frag} : ∀ {rs : List (List Int)} {σ : L2.St} {H : Hp} {Q : List V → Hp → Prop}, (∀ r ∈ rs, r.length ≤ 1000) → (∀ ks H', Same H H' → TP K H' ks → ks.map (·.2) = rs → Q (rf ks) H') → tTups rs σ H Q
  | [], σ, H, Q, _, q => q [] H (Same.refl H) tp_nil rfl
  | r :: rs, σ, H, Q, h, q => by
    show tInts r σ H fun xs H1 => xs.length ≤ sizeLine ∧ ∀ p, H1 p = none → tTups rs σ (upd H1 p (.tup xs)) fun vs H2 => Q (.ref p :: vs) H2
    refine ints_ok ⟨sl_1000 (by rw [List.length_map]; have := h r List.mem_cons_self; omega), fun p hp => ?_⟩
    have s1 : Same H (upd H p (.tup (r.map V.int))) := same_upd hp
    refine tups_ok (K := K) (fun x hx => h x (List.mem_cons_of_mem _ hx)) fun ks H' s2 ht e => ?_
    refine q ((p, r) :: ks) H' (s1.trans s2) ⟨fun y hy => ?_⟩ (by rw [List.map_cons, e])
    rcases List.mem_cons.mp hy with rfl | hy
    · exact s2 _ _ upd_same
    · exact ht.out y hy
theorem lst_tups {K : PySem.W.Frag} {t : TA} {rs : List (List Int)} {σ : L2.St} {H : Hp} {Q : VK} (e : t = tTups rs) (h : ∀ r ∈ rs, r.length ≤ 1000) (hl : rs.length ≤ 1000) (q : ∀ p ks H', Same H H' → TP K H' ks → ks.map (·.2) = rs → H p = none → H' p = some (.lst (rf ks)) → Q (.ref p) H') : tLst t σ H Q := by
  subst e
  refine tups_ok (K := K) (rs := rs) (σ := σ) (H := H) (Q := fun xs H1 => xs.length ≤ sizeLine ∧ ∀ p, H1 p = none → Q (.ref p) (upd H1 p (.lst xs))) h fun ks H1 s1 tl e => ⟨?_, fun p hp => ?_⟩
  · have := congrArg List.length e
    rw [List.length_map] at this
    rw [List.length_map, this]
    exact sl_1000 (by omega)
  · exact q p ks _ (same_new s1 hp) (tp_same (same_upd hp) tl) e (s1.free hp) upd_same
end K45

/-! Numbers that may be drawn. -/
namespace K45
open PySem PySem.Spec PyProof.Rows L2
/-- a ring polynomial's list, off the deck -/
def RingAt (l : Addr) (H : Hp) (r : Addr) (e : Int) : Prop := H r = some (.lst ((polyL e).map V.int)) ∧ r ≠ l
theorem Keeps.ring {d l r : Addr} {H H' : Hp} {e : Int} (k : Keeps d l H H') (D : DeckAt d l H) (h : RingAt l H r e) : RingAt l H' r e := by
  obtain ⟨⟨m, j, h1⟩, _, _⟩ := deck_ref D
  exact ⟨k _ _ h.1 (ne_of h.1 h1 (by intro z; cases z)) h.2, h.2⟩
theorem _root_.L2.Same.ring {l r : Addr} {H H' : Hp} {e : Int} (s : Same H H') (h : RingAt l H r e) : RingAt l H' r e := ⟨s _ _ h.1, h.2⟩
theorem Same.keeps {d l : Addr} {H H' : Hp} (s : Same H H') : Keeps d l H H' := fun b o e _ _ => s b o e
theorem Keeps.num {d l : Addr} {K : PySem.W.Frag} {H H' : Hp} {v : V} {n : Num} (k : Keeps d l H H') (D : DeckAt d l H) (h : NumAt K H v n) : NumAt K H' v n := by
  obtain ⟨p, t, rfl, h1, h2⟩ := h
  exact ⟨p, t, rfl, k.sqt D h1, k.sqt D h2⟩
structure GoodN (e : Int) (n : Num) : Prop where
  ok : NumOk e n
  six : n.2 ∣ 6
  small : ∀ t ∈ n.1, -3 ≤ t ∧ t ≤ 3
theorem er_deg : ∀ e ∈ ER, (unitsL e).length = (polyL e).length - 1 := by decide +kernel
theorem good_low {e : Int} (he : e ∈ ER) {tops : List Int} {b : Int} (hl : tops.length = (polyL e).length - 1) (h1 : 1 ≤ b) (h2 : b ≤ 3) (ht : ∀ t ∈ tops, -3 ≤ t ∧ t ≤ 3) : GoodN e (lowL tops b) := by
  have d := low_dvd tops b h1
  have p := low_pos (v := tops) h1
  have q := Int.le_of_dvd (by omega) d
  refine ⟨⟨by rw [low_len, hl, er_deg e he], p, by omega, low_low h1⟩, Int.dvd_trans d ?_, fun t h => ?_⟩
  · have : b = 1 ∨ b = 2 ∨ b = 3 := by omega
    rcases this with z | z | z <;> rw [z] <;> decide
  · obtain ⟨x, hx, rfl⟩ := List.mem_map.mp h
    have g := lowC_pos tops b h1
    have xb := ht x hx
    obtain ⟨c, hc⟩ := (lowC_dvd tops b).2 x hx
    have e1 : x / lowC tops b = c := by
      conv => lhs; lhs; rw [hc]
      exact Int.mul_ediv_cancel_left _ (by omega)
    rw [e1]
    generalize lowC tops b = G at g hc
    refine ⟨?_, ?_⟩
    · rcases Int.lt_or_le c 0 with z | z
      · have : G * c ≤ 1 * c := Int.mul_le_mul_of_nonpos_right g (by omega)
        omega
      · omega
    · rcases Int.lt_or_le c 0 with z | z
      · omega
      · have : 1 * c ≤ G * c := Int.mul_le_mul_of_nonneg_right g z
        omega
abbrev rGtI : R2 := rI0 fun i j => .bl (decide (j < i))
theorem low_one (t : List Int) : lowL t 1 = (t, 1) := by
  have g := lowC_dvd t 1
  have p := lowC_pos t 1 (Int.le_refl _)
  have e : lowC t 1 = 1 := by
    have := Int.le_of_dvd (by decide) g.1
    omega
  unfold lowL
  rw [e]
  simp
theorem red_whole {dv : List Int} (hd : 2 ≤ dv.length) (x : Int) : redL [x] dv = x :: List.replicate (dv.length - 2) 0 := by
  refine ext_getD (by rw [redL_len' (by omega)]; simp; omega) fun j hj => ?_
  rw [redL_len' (by omega)] at hj
  rw [red_ph (by omega) hj, ph_low _ _ (by simp; omega)]
  cases j with
  | zero => rfl
  | succ j =>
    rw [List.getD_eq_getElem?_getD, List.getD_eq_getElem?_getD]
    simp [List.getElem?_replicate]
    split <;> rfl
theorem good_whole {e : Int} (he : e ∈ ER) {x : Int} (h1 : -3 ≤ x) (h2 : x ≤ 3) : GoodN e (lowL (redL [x] (polyL e)) 1) := by
  obtain ⟨m1, m2, m3, m4⟩ := er_mon e he
  refine good_low he (redL_len' (by omega)) (by decide) (by decide) fun t ht => ?_
  rw [red_whole m1] at ht
  rcases List.mem_cons.mp ht with rfl | z
  · exact ⟨h1, h2⟩
  · rw [(List.mem_replicate.mp z).2]
    decide
theorem Keeps.nums {d l : Addr} {K : PySem.W.Frag} {H H' : Hp} {vs : List V} {ns : List Num} (k : Keeps d l H H') (D : DeckAt d l H) (h : Nums K H vs ns) : Nums K H' vs ns := ⟨h.1, fun i v n e1 e2 => k.num D (h.2 i v n e1 e2)⟩
theorem nums_at {K : PySem.W.Frag} {H : Hp} {vs : List V} {ns : List Num} {D : Addr} {ys : List V} {o : HO} (h : Nums K H vs ns) (hD : H D = some (.lst ys)) : Nums K (upd H D o) vs ns := ⟨h.1, fun i v n e1 e2 => num_at (h.2 i v n e1 e2) hD⟩
theorem DeckAt.off {d l D : Addr} {H : Hp} {o : HO} (h : DeckAt d l H) (h1 : D ≠ d) (h2 : D ≠ l) : DeckAt d l (upd H D o) := by
  obtain ⟨n', m', j', e1, e2, e3⟩ := h
  exact ⟨n', m', j', by rw [upd_ne h1.symm]; exact e1, by rw [upd_ne h2.symm]; exact e2, e3⟩
end K45

/-! repr of tuples of tuples of ints. -/
namespace K45
open PySem PySem.Spec PyProof.Rows L2
/-- can be shown -/
structure OkD (dp bl : Nat) (d : PyData) : Prop where
  sh : d.showable = true
  lv : d.leavesShort 200 = true
  dp : d.depth ≤ dp
  bl : d.bulk ≤ bl
  nd : d.hasDict = false
theorem OkD.le {dp bl dp' bl' : Nat} {d : PyData} (h : OkD dp bl d) (h1 : dp ≤ dp') (h2 : bl ≤ bl') : OkD dp' bl' d := ⟨h.sh, h.lv, Nat.le_trans h.dp h1, Nat.le_trans h.bl h2, h.nd⟩
theorem okd_int {i : Int} (h : i.natAbs < 2 ^ 150) : OkD 1 0 (.int i) := by
  have hl : i.natAbs.log2 < 150 := by
    by_cases h0 : i.natAbs = 0
    · rw [h0]; decide
    · exact (Nat.log2_lt h0).mpr h
  refine ⟨?_, ?_, ?_, ?_, rfl⟩
  · simp only [PyData.showable]
    exact decide_eq_true (by omega)
  · have e := int_text_length_le (a := i) (k := 150) (by decide) hl
    have e2 : (PyData.shown (.int i)).length = (Str.ofString (toString i)).length := rfl
    have e3 : (PyData.shown (.int i)).length ≤ 200 := by rw [e2, PySem.ofString_length]; omega
    show decide ((PyData.shown (.int i)).length ≤ 200) = true
    exact decide_eq_true e3
  · simp [PyData.depth]
  · simp [PyData.bulk]
theorem okd_non : OkD 1 0 .none := ⟨rfl, rfl, by simp [PyData.depth], by simp [PyData.bulk], rfl⟩
theorem okd_all {dp bl : Nat} : ∀ {ds : List PyData}, (∀ d ∈ ds, OkD dp bl d) → PyData.showableAll ds = true ∧ PyData.leavesShortAll 200 ds = true ∧ PyData.depthAll ds ≤ dp ∧ PyData.bulkAll ds ≤ ds.length * (bl + 1) ∧ PyData.hasDictAll ds = false
  | [], _ => ⟨rfl, rfl, by simp [PyData.depthAll], by simp [PyData.bulkAll], rfl⟩
  | d :: ds, h => by
    have hd := h d List.mem_cons_self
    have ih := okd_all (ds := ds) fun x hx => h x (List.mem_cons_of_mem _ hx)
    refine ⟨?_, ?_, ?_, ?_, ?_⟩
    · simp only [PyData.showableAll, hd.sh, ih.1, Bool.and_self]
    · simp only [PyData.leavesShortAll, hd.lv, ih.2.1, Bool.and_self]
    · simp only [PyData.depthAll]
      have := hd.dp
      have := ih.2.2.1
      omega
    · simp only [PyData.bulkAll, List.length_cons]
      have := hd.bl
      have := ih.2.2.2.1
      rw [Nat.add_mul]
      omega
    · simp only [PyData.hasDictAll, hd.nd, ih.2.2.2.2, Bool.or_self]
theorem okd_tup {dp bl n : Nat} {ds : List PyData} (h : ∀ d ∈ ds, OkD dp bl d) (hn : ds.length ≤ n) : OkD (dp + 1) (n * (bl + 1)) (.tuple ds) := by
  obtain ⟨h1, h2, h3, h4, h5⟩ := okd_all h
  refine ⟨?_, ?_, ?_, ?_, ?_⟩
  · simpa only [PyData.showable] using h1
  · simpa only [PyData.leavesShort] using h2
  · simp only [PyData.depth]
    omega
  · simp only [PyData.bulk]
    exact Nat.le_trans h4 (Nat.mul_le_mul_right _ hn)
  · simpa only [PyData.hasDict] using h5
def rRepr (K : PySem.W.Frag) : List V → Hp → VK → Prop := fun xs H Q => ∃ (v : V) (d : PyData), xs = [v] ∧ (∃ a, v = .ref a) ∧ Dp K H v d ∧ OkD 40 50000 d ∧ Q (.str d.shown) H
theorem call_repr {X : Cx} (hg : X.A.guards = some []) (hu : X.A.units + 64 < cLine) : CallR X (.builtin "repr") (rRepr X.K) := by
  intro pins s σ H xs us Q I r h
  obtain ⟨v, d, rfl, ⟨a, rfl⟩, hd, hs, q⟩ := h
  obtain ⟨u, rfl, ru⟩ := vals1 r
  cases (show u = Value.ref a from ru)
  obtain ⟨as, rd⟩ := Dp.reads I d _ _ hd (rfl : RelV (.ref a) (Value.ref a))
  have hz : d.shown.length ≤ sizeLine := by
    have := PyData.shown_le_bulk 200 (by decide) d hs.lv
    have e : (200 + 2) * d.bulk ≤ 202 * 50000 := Nat.mul_le_mul (Nat.le_refl _) hs.bl
    rw [sizeLine_eq]
    omega
  refine repr_of_reads' rd hs.sh (fun z => ?_) hg (by have := hs.dp; omega) (fun _ _ e => e) (fun h' t tk hk => ?_) hz
  · rw [hs.nd] at z
    cases z
  · exact ⟨.str _, H, I.kept hk, ⟨t, rfl⟩, q⟩
/-! ### data of rows -/
abbrev intsD (ns : List Int) : PyData := .tuple (ns.map PyData.int)
abbrev rowD (ns : List Num) : PyData := .tuple (ns.map numD)
abbrev plD (ps : List (List Int)) : PyData := .tuple (ps.map intsD)
/-- no int is great -/
def Bd (ns : List Num) : Prop := ∀ n ∈ ns, (∀ t ∈ n.1, t.natAbs < 2 ^ 150) ∧ n.2.natAbs < 2 ^ 150 ∧ n.1.length ≤ 16
theorem okd_ints {xs : List Int} {n : Nat} (h : ∀ x ∈ xs, x.natAbs < 2 ^ 150) (hn : xs.length ≤ n) : OkD 2 n (intsD xs) := by
  have := okd_tup (dp := 1) (bl := 0) (n := n) (ds := xs.map PyData.int) (fun d hd => by
    obtain ⟨x, hx, rfl⟩ := List.mem_map.mp hd
    exact okd_int (h x hx)) (by rw [List.length_map]; exact hn)
  exact this.le (Nat.le_refl _) (by omega)
theorem okd_num {n : Num} (h1 : ∀ t ∈ n.1, t.natAbs < 2 ^ 150) (h2 : n.2.natAbs < 2 ^ 150) (h3 : n.1.length ≤ 16) : OkD 3 34 (numD n) := by
  have := okd_tup (dp := 2) (bl := 16) (n := 2) (ds := [.tuple (n.1.map PyData.int), .int n.2]) (fun d hd => by
    rcases List.mem_cons.mp hd with rfl | hd
    · exact okd_ints h1 h3
    · rw [List.mem_singleton.mp hd]
      exact (okd_int h2).le (by decide) (by decide)) (Nat.le_refl _)
  exact this.le (Nat.le_refl _) (by decide)
theorem okd_row {ns : List Num} (h : Bd ns) (hl : ns.length ≤ 16) : OkD 4 560 (rowD ns) := by
  have := okd_tup (dp := 3) (bl := 34) (n := 16) (ds := ns.map numD) (fun d hd => by
    obtain ⟨n, hn, rfl⟩ := List.mem_map.mp hd
    exact okd_num (h n hn).1 (h n hn).2.1 (h n hn).2.2) (by rw [List.length_map]; exact hl)
  exact this.le (Nat.le_refl _) (by decide)
theorem okd_pl {ps : List (List Int)} (h : ∀ p ∈ ps, p.length ≤ 4 ∧ ∀ x ∈ p, 0 ≤ x ∧ x < 60) (hl : ps.length ≤ 16) : OkD 4 560 (plD ps) := by
  have := okd_tup (dp := 2) (bl := 4) (n := 16) (ds := ps.map intsD) (fun d hd => by
    obtain ⟨p, hp, rfl⟩ := List.mem_map.mp hd
    refine okd_ints (fun x hx => ?_) (h p hp).1
    have := (h p hp).2 x hx
    have e : x.natAbs < 60 := by omega
    exact Nat.lt_of_lt_of_le e (by decide)) (by rw [List.length_map]; exact hl)
  exact this.le (by decide) (by decide)
theorem okd_list {ds : List PyData} (h : ∀ d ∈ ds, OkD 4 560 d) (hl : ds.length ≤ 3) : OkD 40 50000 (.tuple ds) := (okd_tup h hl).le (by decide) (by decide)
theorem row_dp {K : PySem.W.Frag} {H : Hp} {v : V} {ns : List Num} (h : RowAt K H v ns) : Dp K H v (rowD ns) := by
  obtain ⟨p, vs, rfl, hp, hl, hn⟩ := h
  refine .tup hp ?_
  have key : ∀ (vs : List V) (ns : List Num), vs.length = ns.length → (∀ (i : Nat) v n, vs[i]? = some v → ns[i]? = some n → NumAt K H v n) → DpAll K H vs (ns.map numD) := by
    intro vs
    induction vs with
    | nil =>
      intro ns hl _
      cases ns with
      | nil => exact .nil
      | cons n ns => simp at hl
    | cons v vs ih =>
      intro ns hl h
      cases ns with
      | nil => simp at hl
      | cons n ns => exact .cons (num_dp (h 0 v n rfl rfl)) (ih ns (by simpa using hl) fun i a b e1 e2 => h (i + 1) a b e1 e2)
  exact key vs ns hl hn
theorem tupI_dp {K : PySem.W.Frag} {H : Hp} {v : V} {xs : List Int} (h : TupI K H v xs) : Dp K H v (intsD xs) := by
  obtain ⟨t, rfl, q⟩ := h
  exact .tup q (dp_ints _)
end K45

/-! any(..) of a list of ints. -/
namespace K45
open PySem PySem.Spec PyProof.Rows L2
theorem someN_range : ∀ ns : List Int, (List.range ns.length).any (fun i => ns.getD i 0 != 0) = someN ns := fun ns => by
  rw [Bool.eq_iff_iff]
  unfold someN
  rw [List.any_eq_true, List.any_eq_true]
  constructor
  · rintro ⟨i, hi, h⟩
    have hi := List.mem_range.mp hi
    refine ⟨ns[i], List.getElem_mem hi, ?_⟩
    rw [List.getD_eq_getElem?_getD, List.getElem?_eq_getElem hi] at h
    exact h
  · rintro ⟨n, hn, h⟩
    obtain ⟨i, hi, rfl⟩ := List.getElem_of_mem hn
    refine ⟨i, List.mem_range.mpr hi, ?_⟩
    rw [List.getD_eq_getElem?_getD, List.getElem?_eq_getElem hi]
    exact h
theorem truth_ints {prog : Program} {w : World} {A : Around} {ns : List Int} {its : List Value} (r : Vals (ns.map V.int) its) : TruthOf prog w A (fun i v => its.toArray[i]? = some v) (fun i => ns.getD i 0 != 0) := fun i v s Q E hv hq => by
  have hv' : its[i]? = some v := by simpa using hv
  have hl : i < ns.length := by
    have h1 := ltL hv'
    have h2 := r.length
    rw [List.length_map] at h2
    omega
  obtain ⟨u, hu, ru⟩ := r.get (getD_of hl)
  rw [hv'] at hu
  cases hu
  obtain ⟨t, rfl⟩ := (show ∃ t, v = Value.int (ns.getD i 0) t from ru)
  exact PySem.P.truthy_int hq
section
variable {X : Cx}
def rAnyL (K : PySem.W.Frag) : List V → Hp → VK → Prop := fun vs H Q => ∃ (a : Addr) (ns : List Int), vs = [V.ref a] ∧ SqL K H a (ns.map V.int) ∧ Q (.bl (someN ns)) H
theorem cr_anyL (hc : X.calm = true) : CallR X (.builtin "any") (rAnyL X.K) := by
  intro pins s σ H vs us Q I r h
  obtain ⟨a, ns, rfl, hs, q⟩ := h
  obtain ⟨its, rv, p, _⟩ := I.list hs
  rw [Vals.ref1 r]
  have hlt : a < s.heap.objs.size := by
    obtain ⟨_, e, _⟩ := id p.isList
    exact Heap.lt_size e
  refine call_any_walk (wpAny_pyIter_list p.isList ?_)
  refine ⟨s.heap.objs.size, _, _, _, _, _, _, rfl, Walks.list (A := X.A.in1) (I.ok.hd hc) s.heap.objs.size a (Nat.ne_of_lt hlt) its.toArray, ⟨⟨_, Heap.get?_push_size _ rfl, rfl, rfl⟩, p.isList.push _⟩, truth_ints rv, fun h' tk hk => ?_⟩
  refine ⟨.bl _, H, I.kept fun b o eo => hk b o (fun hm => ?_) (Heap.get?_push_of_some _ eo), ?_, q⟩
  · have e1 := List.mem_singleton.mp hm
    rw [e1] at eo
    exact Nat.lt_irrefl _ (Heap.lt_size eo)
  · show Value.bool _ = Value.bool _
    have hl := rv.length
    rw [List.length_map] at hl
    rw [← someN_range, List.size_toArray, hl]
end
end K45

/-! Rows mixed: mixed_tops. -/
namespace K45
open PySem PySem.Spec PyProof.Rows L2
def mgA (acc ones others : List Int) : Nat → List Int
  | 0 => acc
  | i + 1 => mulR (ones.getD i 0) i others (mgA acc ones others i) others.length
def seatN (r x : List Int) : Nat := (placesL r).idxOf x
def mxS (r x : List Int) (ones : List Int) (others : List (List Int)) (Ts : List (List Int)) (j : Nat) : List (List Int) :=
  Ts.set (seatN r (sumP r x ((placesL r).getD j []))) (mgA (Ts.getD (seatN r (sumP r x ((placesL r).getD j []))) []) ones (others.getD j []) ones.length)
def mxJ (r x : List Int) (ones : List Int) (others : List (List Int)) (Ts : List (List Int)) : Nat → List (List Int)
  | 0 => Ts
  | j + 1 => mxS r x ones others (mxJ r x ones others Ts j) j
def mxI (r : List Int) (onesT othersT : List (List Int)) : Nat → List (List Int)
  | 0 => List.replicate (placesL r).length (List.replicate (2 * ((polyL (ordL r)).length - 1) - 1) 0)
  | i + 1 => if someN (onesT.getD i []) = true then mxJ r ((placesL r).getD i []) (onesT.getD i []) othersT (mxI r onesT othersT i) (placesL r).length else mxI r onesT othersT i
def mixT (r : List Int) (a b : List Num) : List (List Int) := (mxI r (levT a) (levT b) (placesL r).length).map fun t => redL t (polyL (ordL r))
def mixL (r : List Int) (a b : List Num) : List Num := (mixT r a b).map fun t => lowL t (levB a * levB b)
theorem mgA_len (acc ones others : List Int) : ∀ i, (mgA acc ones others i).length = acc.length
  | 0 => rfl
  | i + 1 => by
    show (mulR _ _ _ _ _).length = _
    rw [mulR_len, mgA_len acc ones others i]
theorem ite_of {b : Bool} {p q : Prop} (h1 : b = true → p) (h2 : ¬ b = true → q) : if b = true then p else q := by
  by_cases h : b = true
  · rw [if_pos h]; exact h1 h
  · rw [if_neg h]; exact h2 h
theorem set_getD {U : List (List Int)} {m : Nat} (h : m < U.length) : U.set m (U.getD m []) = U := by
  rw [List.getD_eq_getElem?_getD, List.getElem?_eq_getElem h]
  show U.set m U[m] = U
  exact List.set_getElem_self h
theorem er_d50 : ∀ e ∈ ER, (polyL e).length ≤ 51 := by decide +kernel
/-- all of one length -/
def LenL (Ts : List (List Int)) (n m : Nat) : Prop := Ts.length = n ∧ ∀ T ∈ Ts, T.length = m
theorem LenL.set {Ts : List (List Int)} {n m i : Nat} {T : List Int} (h : LenL Ts n m) (hT : T.length = m) : LenL (Ts.set i T) n m := ⟨by rw [List.length_set]; exact h.1, fun U hU => by
  rcases List.mem_or_eq_of_mem_set hU with z | z
  · exact h.2 U z
  · rw [z]; exact hT⟩
theorem LenL.get {Ts : List (List Int)} {n m i : Nat} (h : LenL Ts n m) (hi : i < n) : (Ts.getD i []).length = m := by
  have hl : i < Ts.length := by rw [h.1]; exact hi
  rw [List.getD_eq_getElem?_getD, List.getElem?_eq_getElem hl]
  exact h.2 _ (List.getElem_mem hl)
theorem sum_in : ∀ r ∈ RR, ∀ x ∈ placesL r, ∀ y ∈ placesL r, sumP r x y ∈ placesL r := by decide +kernel
theorem seat_lt {r x : List Int} (h : x ∈ placesL r) : seatN r x < (placesL r).length := List.idxOf_lt_length_iff.mpr h
/-- a list of lists, changed in place -/
structure TotAt (H : Hp) (D : Addr) (cs : List Addr) (Ts : List (List Int)) : Prop where
  hD : H D = some (.lst (cs.map V.ref))
  len : cs.length = Ts.length
  cell : ∀ (m : Nat) (c : Addr) (T : List Int), cs[m]? = some c → Ts[m]? = some T → H c = some (.lst (T.map V.int))
theorem TotAt.same {H H' : Hp} {D : Addr} {cs : List Addr} {Ts : List (List Int)} (h : TotAt H D cs Ts) (e : Same H H') : TotAt H' D cs Ts := ⟨e _ _ h.hD, h.len, fun m c T e1 e2 => e _ _ (h.cell m c T e1 e2)⟩
theorem TotAt.set {H : Hp} {D c : Addr} {cs : List Addr} {Ts : List (List Int)} {m : Nat} {T : List Int} (h : TotAt H D cs Ts) (nd : cs.Nodup) (nD : D ∉ cs) (hc : cs[m]? = some c) : TotAt (upd H c (.lst (T.map V.int))) D cs (Ts.set m T) := by
  refine ⟨?_, by rw [List.length_set]; exact h.len, fun m' c' T' e1 e2 => ?_⟩
  · rw [upd_ne (fun z => nD (by rw [z]; exact List.mem_of_getElem? hc))]
    exact h.hD
  · by_cases e : m' = m
    · subst e
      rw [e1] at hc
      cases hc
      have hl : m' < Ts.length := by rw [← h.len]; exact ltL e1
      rw [List.getElem?_set_self hl] at e2
      cases e2
      exact upd_same
    · rw [List.getElem?_set_ne (Ne.symm e)] at e2
      have hne : c' ≠ c := fun z => by
        subst z
        have l1 := ltL e1
        have l2 := ltL hc
        have q1 := List.getElem?_eq_getElem l1
        have q2 := List.getElem?_eq_getElem l2
        rw [q1] at e1
        rw [q2] at hc
        exact e ((List.getElem_inj nd).mp ((Option.some.inj e1).trans (Option.some.inj hc).symm))
      rw [upd_ne hne]
      exact h.cell m' c' T' e1 e2
section
variable {P : Program} {w : World} {K : PySem.W.Frag} {mg : Str → Option Value} {base : Heap} {f f1 f2 f3 f4 f5 C fI fM fS : Addr} {fd fd1 fd2 fd3 fd4 fd5 fdI fdS : FuncData}
theorem g_noS {a e po d pl} : (flds a e po d pl).lookup ("seats" : Str) = none := by
  unfold flds
  rw [lk (by decide +kernel), lk (by decide +kernel), lk (by decide +kernel), lk (by decide +kernel), lk (by decide +kernel)]
  rfl
def spMixT (K : PySem.W.Frag) (C : Addr) : Sp := fun vs H Q _ => ∃ (p : Addr) (u z : V) (r : List Int) (a b : List Num), vs = [.ref p, u, z] ∧ FloorAt K C H p r ∧ RowAt K H u a ∧ RowAt K H z b ∧ r ∈ RR ∧ RowOk r a ∧ RowOk r b ∧
  (∀ ts ∈ levT a, ts.length = (polyL (ordL r)).length - 1) ∧ (∀ ts ∈ levT b, ts.length = (polyL (ordL r)).length - 1) ∧ (∀ ts ∈ levT a, ∀ t ∈ ts, -(2 ^ 64) < t ∧ t < 2 ^ 64) ∧
  ∀ P t ks H', Same H H' → SqT K H' P [.ref t, .int (levB a * levB b)] → H' t = some (.lst (rf ks)) → TL K H' ks → ks.map (·.2) = mixT r a b → Q (.ref P) H'
abbrev mxN : List Str := ["floor", "one", "other", "ones", "bottom", "others", "other_bottom", "seats", "totals", "_", "tops", "place", "other_tops", "other_place", "total", "i", "top", "k", "other_top"]
end
end K45

/-! Moved twice, moved back. -/
namespace K45
open PySem PySem.Spec PyProof.Rows L2
theorem getD_rng {n k : Nat} {f : Nat → Int} (h : k < n) : ((List.range n).map f).getD k 0 = f k := by
  rw [List.getD_eq_getElem?_getD, List.getElem?_map, List.getElem?_range h]
  rfl
theorem sumP_assoc (r x s m : List Int) : sumP r x (sumP r s m) = sumP r (sumP r x s) m := by
  unfold sumP
  refine List.map_congr_left fun k hk => ?_
  have hk' := List.mem_range.mp hk
  rw [getD_rng hk', getD_rng hk', Int.add_emod_emod, Int.emod_add_emod, Int.add_assoc]
theorem idx_at {qs : List (List Int)} (nd : qs.Nodup) {i : Nat} {x : List Int} (h : qs[i]? = some x) : qs.idxOf x = i := by
  have il := ltL h
  have e : qs[i] = x := by
    have q := List.getElem?_eq_getElem il
    rw [h] at q
    exact (Option.some.inj q).symm
  rw [← e]
  exact nd.idxOf_getElem i il
theorem mov_idx {r m x y : List Int} (hr : r ∈ RR) (hm : m ∈ placesL r) (hy : y ∈ placesL r) (e : sumP r y m = x) : (movP r m).idxOf x = (placesL r).idxOf y := by
  refine idx_at (mov_nd r hr m hm) ?_
  unfold movP
  rw [List.getElem?_map, idx_get hy]
  exact congrArg some e
theorem mov_pre {r m x : List Int} (hr : r ∈ RR) (hm : m ∈ placesL r) (hx : x ∈ placesL r) : ∃ y ∈ placesL r, sumP r y m = x := List.mem_map.mp (mov_all r hr m hm x hx)
theorem mov_mov {r s m : List Int} (hr : r ∈ RR) (hs : s ∈ placesL r) (hm : m ∈ placesL r) (ns : List Num) : movL r m (movL r s ns) = movL r (sumP r s m) ns := by
  refine laid_laid (lay_in (movP_len r m) (mov_all r hr m hm)) fun x hx => ?_
  obtain ⟨y, hy, ey⟩ := mov_pre hr hm hx
  obtain ⟨z, hz, ez⟩ := mov_pre hr hs hy
  have g : (placesL r).getD ((movP r m).idxOf x) [] = y := by
    rw [mov_idx hr hm hy ey, List.getD_eq_getElem?_getD, idx_get hy]
    rfl
  rw [g, mov_idx hr hs hz ez, mov_idx hr (sum_in r hr s hs m hm) hz (by rw [sumP_assoc, ez, ey])]
theorem rep_in : ∀ r ∈ RR, ∀ s ∈ placesL r, repL r s (-1) ∈ placesL r := by decide +kernel
theorem neg_sum : ∀ r ∈ RR, ∀ s ∈ placesL r, sumP r s (repL r s (-1)) = zeroP r := by decide +kernel
theorem sum_zero : ∀ r ∈ RR, ∀ x ∈ placesL r, sumP r x (zeroP r) = x := by decide +kernel
/-- laid as it stood -/
theorem laid_id {r : List Int} (hr : r ∈ RR) {ns : List Num} (hl : ns.length = (placesL r).length) : laidL r (placesL r) ns = ns := by
  unfold laidL
  refine List.ext_getElem? fun i => ?_
  rw [List.getElem?_map]
  cases hx : (placesL r)[i]? with
  | none =>
    have := List.getElem?_eq_none_iff.mp hx
    rw [List.getElem?_eq_none_iff.mpr (by omega)]
    rfl
  | some x =>
    have il := ltL hx
    show some (ns.getD ((placesL r).idxOf x) ([], 1)) = _
    rw [idx_at (rr_nd r hr) hx, List.getD_eq_getElem?_getD, List.getElem?_eq_getElem (show i < ns.length by omega)]
    rfl
theorem mov_zero {r : List Int} (hr : r ∈ RR) {ns : List Num} (hl : ns.length = (placesL r).length) : movL r (zeroP r) ns = ns := by
  have e : movP r (zeroP r) = placesL r := by
    unfold movP
    conv => rhs; rw [← List.map_id (placesL r)]
    exact List.map_congr_left fun x hx => sum_zero r hr x hx
  unfold movL
  rw [e, laid_id hr hl]
/-- moved, and moved back -/
theorem mov_back {r s : List Int} (hr : r ∈ RR) (hs : s ∈ placesL r) {ns : List Num} (hl : ns.length = (placesL r).length) : movL r (repL r s (-1)) (movL r s ns) = ns := by
  rw [mov_mov hr hs (rep_in r hr s hs), neg_sum r hr s hs, mov_zero hr hl]
end K45

/-! Sums in another order; the voices of a mirrored row. -/
namespace K45
open PySem PySem.Spec PyProof.Rows L2
theorem sm_reidx {f : Nat → Int} {σ τ : Nat → Nat} {n : Nat} (hs : ∀ i, i < n → σ i < n) (h1 : ∀ i, i < n → τ (σ i) = i) (h2 : ∀ j, j < n → τ j < n ∧ σ (τ j) = j) : sm n (fun i => f (σ i)) = sm n f := by
  have a : sm n (fun i => f (σ i)) = sm n (fun i => sm n (fun j => if j = σ i then f j else 0)) := sm_congr fun i hi => by rw [sm_delta, if_pos (hs i hi)]
  rw [a, sm_swap]
  refine sm_congr fun j hj => ?_
  have b : sm n (fun i => if j = σ i then f j else 0) = sm n (fun i => if i = τ j then f j else 0) := sm_congr fun i hi => by
    by_cases e : i = τ j
    · rw [if_pos e, if_pos (by rw [e, (h2 j hj).2])]
    · rw [if_neg e, if_neg (fun z => e (by rw [z, h1 i hi]))]
  rw [b, sm_delta (f := fun _ => f j), if_pos (h2 j hj).1]
/-- the index of the opposite place -/
def opI (r : List Int) (i : Nat) : Nat := (mirP r).idxOf ((placesL r).getD i [])
theorem op_ok : ∀ r ∈ RR, ∀ i ∈ List.range (placesL r).length, opI r i < (placesL r).length ∧ opI r (opI r i) = i := by decide +kernel
theorem op_pair : ∀ r ∈ RR, ∀ b ∈ List.range (placesL r).length, ∀ i ∈ List.range (placesL r).length, pairL r (ordL r) ((placesL r).getD (opI r b) []) ((placesL r).getD i []) = pairL r (ordL r) ((placesL r).getD b []) ((placesL r).getD (opI r i) []) := by decide +kernel
theorem mir_at {r : List Int} {ns : List Num} {i : Nat} (hi : i < (placesL r).length) : (mirL r ns)[i]? = some (ns.getD (opI r i) ([], 1)) := by
  have h := List.getElem?_eq_getElem hi
  unfold mirL
  rw [laid_get h]
  unfold opI
  rw [List.getD_eq_getElem?_getD (l := placesL r), h]
  rfl
theorem mir_some {r : List Int} (h : r ∈ RR) {ns : List Num} (hl : ns.length = (placesL r).length) {i : Nat} {n : Num} (hn : (mirL r ns)[i]? = some n) : i < (placesL r).length ∧ ns[opI r i]? = some n := by
  have hi : i < (placesL r).length := by
    have q := ltL hn
    unfold mirL at q
    rw [laidL_len] at q
    exact q
  refine ⟨hi, ?_⟩
  rw [mir_at hi] at hn
  have o := (op_ok r h i (List.mem_range.mpr hi)).1
  have g := List.getElem?_eq_getElem (show opI r i < ns.length by omega)
  rw [List.getD_eq_getElem?_getD, g] at hn
  rw [g]
  exact hn
theorem rowC_laid {r : List Int} {qs : List (List Int)} {ns : List Num} (h : RowC r ns) (ql : qs.length = (placesL r).length) (all : ∀ x ∈ placesL r, x ∈ qs) : RowC r (laidL r qs ns) :=
  ⟨laidL_len r qs ns, fun n hn => h.num n (laid_mem (by rw [h.len, ql]) all hn)⟩
/-- the voices of a mirrored row -/
theorem vo_mir {r : List Int} (h : r ∈ RR) {ns : List Num} (C : RowC r ns) : voL r (mirL r ns) = mirL r (voL r ns) := by
  have hB : 1 ≤ levB ns := levB_pos fun n hn => (C.num n hn).pos
  have Cm : RowC r (mirL r ns) := rowC_laid C (mirP_len r) (mir_all r h)
  have Cv : RowC r (mirL r (voL r ns)) := rowC_laid (rowC_vo h C) (mirP_len r) (mir_all r h)
  have op : ∀ i, i < (placesL r).length → opI r i < (placesL r).length ∧ opI r (opI r i) = i := fun i hi => op_ok r h i (List.mem_range.mpr hi)
  refine rows_eq (rowC_vo h Cm) Cv hB (w := fun i => Tq r 1 (pl r (opI r i)) (wv (levT ns))) (fun i n hn => ?_) (fun i n hn => ?_)
  · have hi := (voL_get hn).1
    have q := Rp_vo h Cm hB (w := fun a => wv (levT ns) (opI r a)) (fun a b hb => Rp_lev C (mir_some h C.len hb).2) hn
    refine Rp_congr (fun k hk => ?_) q
    have s := sm_reidx (f := fun b => tn (dg r) (polyL (ordL r)) (pw r (ordL r) 1 ((placesL r).getD b []) ((placesL r).getD (opI r i) [])) (wv (levT ns) b) k) (σ := opI r) (τ := opI r) (n := (placesL r).length) (fun a ha => (op a ha).1) (fun a ha => (op a ha).2) op
    refine Eq.trans ?_ s
    refine sm_congr fun a ha => ?_
    have e := op_pair r h (opI r a) (List.mem_range.mpr (op a ha).1) i (List.mem_range.mpr hi)
    rw [(op a ha).2] at e
    unfold pw
    rw [e]
  · exact Rp_vo h C hB (fun a b hb => Rp_lev C hb) (mir_some h (rowC_vo h C).len hn).2
end K45

/-! A number times a turn. -/
namespace K45
open PySem PySem.Spec PyProof.Rows L2
theorem turn_co {r : List Int} (h : r ∈ RR) (p : Int) {k : Nat} (hk : k < dg r) : (turnL (ordL r) p).1.getD k 0 = Tz (dg r) (polyL (ordL r)) k (p % ordL r).toNat := by
  have hp := poly_len h
  unfold turnL
  show (redL _ _).getD k 0 = _
  rw [red_ph (by omega) hk]
  show ph (dg r) (polyL (ordL r)) k _ = _
  rw [ph_snoc, List.length_replicate, Int.one_mul]
  have z : ph (dg r) (polyL (ordL r)) k (List.replicate (p % ordL r).toNat 0) = 0 := dotc_zero _ _
  rw [z, Int.zero_add]
theorem numC_turn {r : List Int} (h : r ∈ RR) (p : Int) : NumC (dg r) (turnL (ordL r) p) := by
  have hp := poly_len h
  refine ⟨redL_len' (by omega), Int.le_refl _, ?_⟩
  unfold turnL
  exact low_one _
theorem mv_turn {r : List Int} (h : r ∈ RR) (a : List Int) (p : Int) (j : Nat) :
    mv r a (fun k => (turnL (ordL r) p).1.getD k 0) j = tn (dg r) (polyL (ordL r)) (p % ordL r).toNat (fun k => a.getD k 0) j := by
  have d1 := (tabs_of h).d1
  rw [mv_congr (w := fun k => Tz (dg r) (polyL (ordL r)) k (p % ordL r).toNat) (fun k hk => turn_co h p hk) j]
  unfold mv
  have e : ∀ i, i < dg r → a.getD i 0 * tn (dg r) (polyL (ordL r)) i (fun k => Tz (dg r) (polyL (ordL r)) k (p % ordL r).toNat) j = a.getD i 0 * Tz (dg r) (polyL (ordL r)) j ((p % ordL r).toNat + i) := fun i _ => by
    rw [tn_T _ _ _ _ d1, Nat.add_comm]
  rw [sm_congr e]
  rfl
/-- a number times a turn, as fractions -/
theorem Rp_turn {r : List Int} (h : r ∈ RR) {a : Num} {M : Int} {w : Nat → Int} (ha : NumC (dg r) a) (ra : Rp (dg r) a M w) (p : Int) :
    Rp (dg r) (prodL (ordL r) a (turnL (ordL r) p)) M (tn (dg r) (polyL (ordL r)) (p % ordL r).toNat w) := by
  have q := Rp_prod h ha (numC_turn h p) (Rp_self (dg r) (turnL (ordL r) p))
  intro j hj
  have q1 := q j hj
  rw [mv_turn h] at q1
  have q2 : (prodL (ordL r) a (turnL (ordL r) p)).2 * tn (dg r) (polyL (ordL r)) (p % ordL r).toNat (fun k => a.1.getD k 0) j = a.2 * (prodL (ordL r) a (turnL (ordL r) p)).1.getD j 0 := by
    rw [q1]
    show a.2 * 1 * _ = _
    rw [Int.mul_one]
  have e1 : a.2 * tn (dg r) (polyL (ordL r)) (p % ordL r).toNat w j = M * tn (dg r) (polyL (ordL r)) (p % ordL r).toNat (fun k => a.1.getD k 0) j := by
    rw [← tn_mul, ← tn_mul]
    exact tn_congr fun k hk => ra k hk
  refine icancel ha.pos ?_
  generalize tn (dg r) (polyL (ordL r)) (p % ordL r).toNat w j = x at e1
  generalize tn (dg r) (polyL (ordL r)) (p % ordL r).toNat (fun k => a.1.getD k 0) j = y at e1 q2
  generalize (prodL (ordL r) a (turnL (ordL r) p)).1.getD j 0 = u at q2
  generalize (prodL (ordL r) a (turnL (ordL r) p)).2 = v at q2
  have s1 : a.2 * (v * x) = v * (a.2 * x) := by rw [← Int.mul_assoc, ← Int.mul_assoc, Int.mul_comm a.2 v]
  have s2 : a.2 * (M * u) = M * (a.2 * u) := by rw [← Int.mul_assoc, ← Int.mul_assoc, Int.mul_comm a.2 M]
  rw [s1, s2, e1, ← q2, ← Int.mul_assoc, ← Int.mul_assoc, Int.mul_comm v M]
end K45

/-! Indexes of moved places. -/
namespace K45
open PySem PySem.Spec PyProof.Rows L2
def mvI (r s : List Int) (i : Nat) : Nat := (movP r s).idxOf ((placesL r).getD i [])
def fwI (r s : List Int) (b : Nat) : Nat := (placesL r).idxOf (sumP r ((placesL r).getD b []) s)
theorem at_pl {r : List Int} {i : Nat} (hi : i < (placesL r).length) : (placesL r)[i]? = some ((placesL r).getD i []) ∧ (placesL r).getD i [] ∈ placesL r := by
  have h := List.getElem?_eq_getElem hi
  have e : (placesL r).getD i [] = (placesL r)[i] := by rw [List.getD_eq_getElem?_getD, h]; rfl
  rw [e]
  exact ⟨h, List.getElem_mem hi⟩
theorem fw_ok {r s : List Int} (h : r ∈ RR) (hs : s ∈ placesL r) {b : Nat} (hb : b < (placesL r).length) : fwI r s b < (placesL r).length ∧ (placesL r).getD (fwI r s b) [] = sumP r ((placesL r).getD b []) s ∧ mvI r s (fwI r s b) = b := by
  have p := at_pl hb
  have m := sum_in r h _ p.2 s hs
  have g := idx_get m
  have e : (placesL r).getD (fwI r s b) [] = sumP r ((placesL r).getD b []) s := by
    unfold fwI
    rw [List.getD_eq_getElem?_getD (i := (placesL r).idxOf _), g]
    rfl
  refine ⟨List.idxOf_lt_length_iff.mpr m, e, ?_⟩
  unfold mvI
  rw [e, mov_idx h hs p.2 rfl]
  exact idx_at (rr_nd r h) p.1
theorem mv_ok {r s : List Int} (h : r ∈ RR) (hs : s ∈ placesL r) {i : Nat} (hi : i < (placesL r).length) : mvI r s i < (placesL r).length ∧ fwI r s (mvI r s i) = i := by
  have p := at_pl hi
  obtain ⟨y, hy, e⟩ := mov_pre h hs p.2
  have e1 : mvI r s i = (placesL r).idxOf y := mov_idx h hs hy e
  have ly := List.idxOf_lt_length_iff.mpr hy
  refine ⟨by rw [e1]; exact ly, ?_⟩
  unfold fwI
  have g : (placesL r).getD (mvI r s i) [] = y := by
    rw [e1, List.getD_eq_getElem?_getD, idx_get hy]
    rfl
  rw [g, e]
  exact idx_at (rr_nd r h) p.1
theorem mov_some {r s : List Int} (h : r ∈ RR) (hs : s ∈ placesL r) {ns : List Num} (hl : ns.length = (placesL r).length) {i : Nat} {n : Num} (hn : (movL r s ns)[i]? = some n) : i < (placesL r).length ∧ ns[mvI r s i]? = some n := by
  have hi : i < (placesL r).length := by
    have q := ltL hn
    unfold movL at q
    rw [laidL_len] at q
    exact q
  refine ⟨hi, ?_⟩
  unfold movL at hn
  rw [laid_get (at_pl hi).1] at hn
  have o := (mv_ok h hs hi).1
  have g := List.getElem?_eq_getElem (show mvI r s i < ns.length by omega)
  unfold mvI at o g ⊢
  rw [List.getD_eq_getElem?_getD, g] at hn
  rw [g]
  exact hn
theorem dif_sum : ∀ r ∈ RR, ∀ x ∈ placesL r, ∀ s ∈ placesL r, difL r (sumP r x s) s = x := by decide +kernel
theorem pair_sum {r s x l : List Int} (h : r ∈ RR) (hx : x ∈ placesL r) (hs : s ∈ placesL r) : (pairL r (ordL r) (sumP r x s) l - pairL r (ordL r) s l) % ordL r = pairL r (ordL r) x l := by
  have he := er_bd _ (er_in r h)
  rw [pair_difL (by omega) _ _ _ (fun k hk => div_ok r h k (List.mem_range.mpr hk)), dif_sum r h x hx s hs]
end K45

/-! The voices of a moved row. -/
namespace K45
open PySem PySem.Spec PyProof.Rows L2
theorem tn_eqv {deg : Nat} {dv : List Int} {p q e j : Nat} {v : Nat → Int} (per : ∀ i, Tz deg dv j (i + e) = Tz deg dv j i) (h : p % e = q % e) : tn deg dv p v j = tn deg dv q v j :=
  sm_congr fun k _ => by rw [T_eqv per (show (p + k) % e = (q + k) % e by rw [Nat.add_mod, h, ← Nat.add_mod])]
theorem pw_sum {r s x l : List Int} (h : r ∈ RR) (hx : x ∈ placesL r) (hs : s ∈ placesL r) : pw r (ordL r) 1 (sumP r x s) l % (ordL r).toNat = ((pairL r (ordL r) s l % ordL r).toNat + pw r (ordL r) 1 x l) % (ordL r).toNat := by
  have eb := er_bd _ (er_in r h)
  have he : 0 < ordL r := by omega
  have q := pair_sum (l := l) h hx hs
  have c1 := Int.emod_nonneg (1 * pairL r (ordL r) (sumP r x s) l) (show ordL r ≠ 0 by omega)
  have c2 := Int.emod_nonneg (pairL r (ordL r) s l) (show ordL r ≠ 0 by omega)
  have c3 := Int.emod_nonneg (1 * pairL r (ordL r) x l) (show ordL r ≠ 0 by omega)
  unfold pw
  apply Int.ofNat_inj.mp
  rw [Int.natCast_emod, Int.natCast_emod, Int.natCast_add, Int.toNat_of_nonneg c1, Int.toNat_of_nonneg c2, Int.toNat_of_nonneg c3, Int.toNat_of_nonneg (show 0 ≤ ordL r by omega), Int.one_mul, Int.one_mul, Int.emod_emod, Int.emod_add_emod, Int.add_emod_emod, ← q, Int.add_emod_emod]
  congr 1
  omega
/-- the voices of a moved row, by the turns -/
def turnedV (r s : List Int) (vs : List Num) : List Num := (List.range (placesL r).length).map fun i => prodL (ordL r) (vs.getD i ([], 1)) (turnL (ordL r) (pairL r (ordL r) s ((placesL r).getD i [])))
theorem turned_some {r s : List Int} {vs : List Num} (hl : vs.length = (placesL r).length) {i : Nat} {n : Num} (hn : (turnedV r s vs)[i]? = some n) : i < (placesL r).length ∧ ∃ a, vs[i]? = some a ∧ n = prodL (ordL r) a (turnL (ordL r) (pairL r (ordL r) s ((placesL r).getD i []))) := by
  have hi : i < (placesL r).length := by
    have q := ltL hn
    unfold turnedV at q
    rw [List.length_map, List.length_range] at q
    exact q
  refine ⟨hi, ?_⟩
  have g := List.getElem?_eq_getElem (show i < vs.length by omega)
  unfold turnedV at hn
  rw [List.getElem?_map, List.getElem?_range hi] at hn
  refine ⟨_, g, ?_⟩
  have e := (Option.some.inj hn).symm
  have g2 : vs.getD i ([], 1) = vs[i] := by
    rw [List.getD_eq_getElem?_getD, g]
    rfl
  rw [← g2]
  exact e
theorem rowC_turned {r s : List Int} (h : r ∈ RR) {vs : List Num} (C : RowC r vs) : RowC r (turnedV r s vs) := by
  refine ⟨by unfold turnedV; rw [List.length_map, List.length_range], fun n hn => ?_⟩
  obtain ⟨i, hi⟩ := List.mem_iff_getElem?.mp hn
  obtain ⟨_, a, ha, rfl⟩ := turned_some C.len hi
  exact numC_prod h (C.num a (List.mem_of_getElem? ha)) (numC_turn h _)
theorem vo_mov {r s : List Int} (h : r ∈ RR) (hs : s ∈ placesL r) {ns : List Num} (C : RowC r ns) : voL r (movL r s ns) = turnedV r s (voL r ns) := by
  have hB : 1 ≤ levB ns := levB_pos fun n hn => (C.num n hn).pos
  have Cm : RowC r (movL r s ns) := rowC_laid C (movP_len r s) (mov_all r h s hs)
  have T := tabs_of h
  refine rows_eq (rowC_vo h Cm) (rowC_turned h (rowC_vo h C)) hB (w := fun i => tn (dg r) (polyL (ordL r)) (pairL r (ordL r) s ((placesL r).getD i []) % ordL r).toNat (Tq r 1 (pl r i) (wv (levT ns)))) (fun i n hn => ?_) (fun i n hn => ?_)
  · have hi := (voL_get hn).1
    have q := Rp_vo h Cm hB (w := fun a => wv (levT ns) (mvI r s a)) (fun a b hb => Rp_lev C (mov_some h hs C.len hb).2) hn
    refine Rp_congr (fun k hk => ?_) q
    have e := sm_reidx (f := fun a => tn (dg r) (polyL (ordL r)) (pw r (ordL r) 1 ((placesL r).getD a []) ((placesL r).getD i [])) (wv (levT ns) (mvI r s a)) k) (σ := fwI r s) (τ := mvI r s) (n := (placesL r).length) (fun b hb => (fw_ok h hs hb).1) (fun b hb => (fw_ok h hs hb).2.2) (fun a ha => mv_ok h hs ha)
    refine Eq.trans e.symm ?_
    show _ = tn (dg r) (polyL (ordL r)) _ (fun k => sm (placesL r).length fun b => tn (dg r) (polyL (ordL r)) (pw r (ordL r) 1 ((placesL r).getD b []) ((placesL r).getD i [])) (wv (levT ns) b) k) k
    rw [tn_sm]
    refine sm_congr fun b hb => ?_
    have f := fw_ok h hs hb
    rw [tn_tn _ _ _ _ _ _ T.d1]
    show tn (dg r) (polyL (ordL r)) (pw r (ordL r) 1 ((placesL r).getD (fwI r s b) []) ((placesL r).getD i [])) (wv (levT ns) (mvI r s (fwI r s b))) k = _
    rw [f.2.2, f.2.1]
    exact tn_eqv (T.per k hk) (pw_sum h (at_pl hb).2 hs)
  · obtain ⟨_, a, ha, rfl⟩ := turned_some (rowC_vo h C).len hn
    exact Rp_turn h ((rowC_vo h C).num a (List.mem_of_getElem? ha)) (Rp_vo h C hB (fun a b hb => Rp_lev C hb) ha) _
end K45

/-! Exchange by -1 of turned vectors. -/
namespace K45
open PySem PySem.Spec PyProof.Rows L2
/-- the index of the opposite power -/
def ng (e : Int) (m : Nat) : Nat := (((m : Int) * -1) % e).toNat
/-- exchange by -1 of a vector -/
def exv (e : Int) (w : Nat → Int) (j : Nat) : Int := sm ((polyL e).length - 1) (fun m => w m * Tz ((polyL e).length - 1) (polyL e) j (ng e m))
theorem ng_mod {e : Int} (he : 0 < e) (a : Nat) : ng e (a % e.toNat) = ng e a := by
  unfold ng
  have : (((a % e.toNat : Nat) : Int) * -1) % e = ((a : Int) * -1) % e := by
    rw [Int.natCast_emod, Int.toNat_of_nonneg (by omega), Int.mul_emod, Int.emod_emod, ← Int.mul_emod]
  rw [this]
theorem ex_T {r : List Int} (h : r ∈ RR) (a : Nat) {j : Nat} (hj : j < dg r) : exv (ordL r) (fun k => Tz (dg r) (polyL (ordL r)) k a) j = Tz (dg r) (polyL (ordL r)) j (ng (ordL r) a) := by
  have he := ord_er r h
  obtain ⟨t, ht, et⟩ := er_tab _ he
  have ok := tabs_ok t ht
  have eb := er_bd _ he
  have e0 : 0 < ordL r := by omega
  have ep : polyL (ordL r) = t.2.1 := by rw [← et]; exact ok.1
  have T := tabs_of h
  have md : ∀ m : Nat, ng (ordL r) m < (ordL r).toNat := fun m => by
    have := Int.emod_nonneg ((m : Int) * -1) (show ordL r ≠ 0 by omega)
    have := Int.emod_lt_of_pos ((m : Int) * -1) e0
    unfold ng
    omega
  have la : a % (ordL r).toNat < (ordL r).toNat := Nat.mod_lt _ (by omega)
  have q := ex_ok t ht
  unfold exB at q
  rw [List.all_eq_true] at q
  have q1 := q (a % (ordL r).toNat) (List.mem_range.mpr (by rw [et]; exact la))
  rw [List.all_eq_true] at q1
  have q2 := of_decide_eq_true (q1 j (List.mem_range.mpr (by rw [← ep]; exact hj)))
  rw [et] at q2
  have tc : ∀ {i b : Nat}, i < (polyL (ordL r)).length - 1 → b < (ordL r).toNat → (t.2.2.getD i []).getD b 0 = Tz ((polyL (ordL r)).length - 1) (polyL (ordL r)) i b := by
    intro i b hi hb
    rw [ep] at hi ⊢
    exact tab_col ht hi (by rw [et]; omega)
  have q3 : (t.2.2.getD j []).getD (ng (ordL r) (a % (ordL r).toNat)) 0 = Tz (dg r) (polyL (ordL r)) j (ng (ordL r) a) := by
    rw [tc hj (md _), ng_mod e0]
  rw [← q3]
  refine Eq.trans ?_ q2
  rw [← ep]
  refine sm_congr fun m hm => ?_
  show Tz _ _ m a * Tz _ _ j (ng (ordL r) m) = _ * (t.2.2.getD j []).getD (ng (ordL r) m) 0
  rw [tc hm la, tc hj (md _), T_eqv (T.per m hm) (show a % (ordL r).toNat = (a % (ordL r).toNat) % (ordL r).toNat by rw [Nat.mod_mod])]
end K45

namespace K45
open PySem PySem.Spec PyProof.Rows L2
theorem ng_add {e : Int} (he : 0 < e) (p k : Nat) : ng e (p + k) % e.toNat = (ng e p + ng e k) % e.toNat := by
  have c := fun m : Nat => Int.emod_nonneg ((m : Int) * -1) (show e ≠ 0 by omega)
  unfold ng
  apply Int.ofNat_inj.mp
  have c2 := c (p + k)
  rw [Int.natCast_emod, Int.natCast_emod, Int.natCast_add (_ : Int).toNat, Int.toNat_of_nonneg c2, Int.toNat_of_nonneg (c p), Int.toNat_of_nonneg (c k), Int.toNat_of_nonneg (show 0 ≤ e by omega), Int.emod_emod, Int.emod_add_emod, Int.add_emod_emod, Int.natCast_add, Int.add_mul]
theorem ex_tn {r : List Int} (h : r ∈ RR) (p : Nat) (w : Nat → Int) {j : Nat} (hj : j < dg r) : exv (ordL r) (tn (dg r) (polyL (ordL r)) p w) j = tn (dg r) (polyL (ordL r)) (ng (ordL r) p) (exv (ordL r) w) j := by
  have T := tabs_of h
  have eb := er_bd _ (ord_er r h)
  have e1 : exv (ordL r) (tn (dg r) (polyL (ordL r)) p w) j = sm (dg r) (fun k => w k * Tz (dg r) (polyL (ordL r)) j (ng (ordL r) (p + k))) := by
    have a : exv (ordL r) (tn (dg r) (polyL (ordL r)) p w) j = sm (dg r) (fun m => sm (dg r) (fun k => w k * (Tz (dg r) (polyL (ordL r)) m (p + k) * Tz (dg r) (polyL (ordL r)) j (ng (ordL r) m)))) := by
      refine sm_congr fun m _ => ?_
      show sm (dg r) (fun k => w k * Tz (dg r) (polyL (ordL r)) m (p + k)) * _ = _
      rw [← sm_mulR]
      exact sm_congr fun k _ => Int.mul_assoc _ _ _
    rw [a, sm_swap]
    refine sm_congr fun k _ => ?_
    rw [sm_mul]
    exact congrArg (w k * ·) (ex_T h (p + k) hj)
  have e2 : tn (dg r) (polyL (ordL r)) (ng (ordL r) p) (exv (ordL r) w) j = sm (dg r) (fun k => w k * Tz (dg r) (polyL (ordL r)) j (ng (ordL r) p + ng (ordL r) k)) := by
    have a : tn (dg r) (polyL (ordL r)) (ng (ordL r) p) (exv (ordL r) w) j = sm (dg r) (fun m => tn (dg r) (polyL (ordL r)) (ng (ordL r) p) (fun k => w m * Tz (dg r) (polyL (ordL r)) k (ng (ordL r) m)) j) := tn_sm _ _ _ _ _ _
    rw [a]
    refine sm_congr fun m _ => ?_
    rw [tn_mul, tn_T _ _ _ _ T.d1]
  rw [e1, e2]
  exact sm_congr fun k _ => by rw [T_eqv (T.per j hj) (ng_add (by omega) p k)]
end K45

/-! The voices of a turned row. -/
namespace K45
open PySem PySem.Spec PyProof.Rows L2
theorem tr_some {r : List Int} {ns : List Num} {i : Nat} {n : Num} (hn : (trL r ns)[i]? = some n) : ∃ m, ns[i]? = some m ∧ n = exL (ordL r) m (-1) := by
  unfold trL at hn
  rw [List.getElem?_map] at hn
  obtain ⟨m, hm, e⟩ := Option.map_eq_some_iff.mp hn
  exact ⟨m, hm, e.symm⟩
theorem Rp_ex {r : List Int} (h : r ∈ RR) {a : Num} {M : Int} {w : Nat → Int} (ha : NumC (dg r) a) (ra : Rp (dg r) a M w) : Rp (dg r) (exL (ordL r) a (-1)) M (exv (ordL r) w) := by
  have eb := er_bd _ (ord_er r h)
  have hp := poly_len h
  intro j hj
  show a.2 * exv (ordL r) w j = M * (exT (ordL r) (-1) a.1).getD j 0
  rw [exT_co (by omega) (by omega) hj, ha.len]
  unfold exv
  rw [← sm_mul, ← sm_mul]
  refine sm_congr fun m hm => ?_
  rw [← Int.mul_assoc, ← Int.mul_assoc, ra m hm]
  rfl
theorem exv_congr {e : Int} {v w : Nat → Int} (h : ∀ k, k < (polyL e).length - 1 → v k = w k) (j : Nat) : exv e v j = exv e w j := sm_congr fun m hm => by rw [h m hm]
theorem ng_pw : ∀ r ∈ RR, ∀ b ∈ List.range (placesL r).length, ∀ i ∈ List.range (placesL r).length, ng (ordL r) (pw r (ordL r) 1 ((placesL r).getD b []) ((placesL r).getD (opI r i) [])) = pw r (ordL r) 1 ((placesL r).getD b []) ((placesL r).getD i []) := by decide +kernel
theorem vo_tr {r : List Int} (h : r ∈ RR) {ns : List Num} (C : RowC r ns) : voL r (trL r ns) = trL r (mirL r (voL r ns)) := by
  have hB : 1 ≤ levB ns := levB_pos fun n hn => (C.num n hn).pos
  have Ct := rowC_tr h C
  have Cv := rowC_vo h C
  have Cm : RowC r (mirL r (voL r ns)) := rowC_laid Cv (mirP_len r) (mir_all r h)
  refine rows_eq (rowC_vo h Ct) (rowC_tr h Cm) hB (w := fun i => exv (ordL r) (Tq r 1 (pl r (opI r i)) (wv (levT ns)))) (fun i n hn => ?_) (fun i n hn => ?_)
  · have hi := (voL_get hn).1
    have q := Rp_vo h Ct hB (w := fun a => exv (ordL r) (wv (levT ns) a)) (fun a b hb => by
      obtain ⟨m, hm, rfl⟩ := tr_some hb
      exact Rp_ex h (C.num m (List.mem_of_getElem? hm)) (Rp_lev C hm)) hn
    refine Rp_congr (fun k hk => ?_) q
    have e : exv (ordL r) (Tq r 1 (pl r (opI r i)) (wv (levT ns))) k = sm (placesL r).length (fun b => exv (ordL r) (tn (dg r) (polyL (ordL r)) (pw r (ordL r) 1 ((placesL r).getD b []) ((placesL r).getD (opI r i) [])) (wv (levT ns) b)) k) := by
      unfold exv Tq TSf
      rw [← sm_swap]
      exact sm_congr fun m _ => by rw [← sm_mulR]
    rw [e]
    refine sm_congr fun b hb => ?_
    rw [ex_tn h _ _ hk, ng_pw r h b (List.mem_range.mpr hb) i (List.mem_range.mpr hi)]
  · obtain ⟨m, hm, rfl⟩ := tr_some hn
    obtain ⟨_, hm2⟩ := mir_some h Cv.len hm
    exact Rp_ex h (Cm.num m (List.mem_of_getElem? hm)) (Rp_vo h C hB (fun a b hb => Rp_lev C hb) hm2)
end K45

/-! mixed_rows, mixed. -/
namespace K45
open PySem PySem.Spec PyProof.Rows L2
theorem redL_le {xs dv : List Int} (h : 1 ≤ dv.length) (h2 : dv.length ≤ 900) : (redL xs dv).length ≤ 1000 := by
  have := divL_le (xs := xs) h
  unfold redL
  rw [List.length_append, List.length_replicate]
  omega
/-- what mixing asks of two rows -/
structure MixOk (r : List Int) (a b : List Num) : Prop where
  oka : RowOk r a
  okb : RowOk r b
  la : ∀ ts ∈ levT a, ts.length = (polyL (ordL r)).length - 1
  lb : ∀ ts ∈ levT b, ts.length = (polyL (ordL r)).length - 1
  bd : ∀ ts ∈ levT a, ∀ t ∈ ts, -(2 ^ 64) < t ∧ t < 2 ^ 64
section
variable {P : Program} {w : World} {K : PySem.W.Frag} {mg : Str → Option Value} {base : Heap} {f f1 f2 f3 f4 f5 C fI fM fS : Addr} {fd fd1 fd2 fd3 fd4 fd5 fdI fdS : FuncData}
def spMixR (K : PySem.W.Frag) (C : Addr) : Sp := fun vs H Q _ => ∃ (p : Addr) (u z : V) (r : List Int) (a b : List Num), vs = [.ref p, u, z] ∧ FloorAt K C H p r ∧ RowAt K H u a ∧ RowAt K H z b ∧ r ∈ RR ∧ MixOk r a b ∧ ∀ v' H', Same H H' → RowAt K H' v' (mixL r a b) → Q v' H'
abbrev mrwN : List Str := ["floor", "one", "other", "totals", "bottom", "tops"]
def spMixed (K : PySem.W.Frag) : Sp := fun vs H Q _ => ∃ (v u z : V) (r : List Int) (a b : List Num), vs = [v, u, z] ∧ TupI K H v r ∧ RowAt K H u a ∧ RowAt K H z b ∧ r ∈ RR ∧ RowG r a ∧ RowG r b ∧ MixOk r a b ∧ ∀ v' H', Same H H' → RowAt K H' v' (mixL r a b) → Q v' H'
end
end K45

/-! Mixed rows as sums over two places. -/
namespace K45
open PySem PySem.Spec PyProof.Rows L2
theorem dotc_mgA {c : Nat → Int} (acc ones others : List Int) : ∀ i, i + others.length ≤ acc.length + 1 → dotc c (mgA acc ones others i) = dotc c acc + sm i (fun a => sm others.length (fun m => ones.getD a 0 * others.getD m 0 * c (a + m)))
  | 0, _ => by show dotc c acc = dotc c acc + 0; omega
  | i + 1, h => by
    show dotc c (mulR (ones.getD i 0) i others (mgA acc ones others i) others.length) = dotc c acc + (sm i _ + _)
    rw [dotc_mulR _ _ _ _ _ (by rw [mgA_len]; omega), dotc_mgA acc ones others i (by omega)]
    exact Int.add_assoc _ _ _
/-- the product of two lists of tops, weighed -/
def cP (c : Nat → Int) (ones others : List Int) : Int := sm ones.length (fun a => sm others.length (fun m => ones.getD a 0 * others.getD m 0 * c (a + m)))
theorem cP_zero {c : Nat → Int} {ones : List Int} (h : ¬ someN ones = true) (others : List Int) : cP c ones others = 0 := by
  have z : ∀ t ∈ ones, t = 0 := fun t ht => by
    by_cases e : t = 0
    · exact e
    · exact absurd (show someN ones = true from List.any_eq_true.mpr ⟨t, ht, by simpa using e⟩) h
  have g : ∀ a, ones.getD a 0 = 0 := fun a => by
    rw [List.getD_eq_getElem?_getD]
    cases q : ones[a]? with
    | none => rfl
    | some x => exact z x (List.mem_of_getElem? q)
  unfold cP
  rw [sm_congr fun a _ => sm_congr fun m _ => by rw [g a, Int.zero_mul, Int.zero_mul], sm_congr fun a _ => sm_zero _, sm_zero]
theorem getD_setL {U : List (List Int)} {i z : Nat} {T : List Int} (hi : i < U.length) : (U.set i T).getD z [] = if z = i then T else U.getD z [] := by
  rw [List.getD_eq_getElem?_getD, List.getD_eq_getElem?_getD]
  by_cases e : z = i
  · subst e
    rw [List.getElem?_set_self hi, if_pos rfl]
    rfl
  · rw [List.getElem?_set_ne (Ne.symm e), if_neg e]
/-- the index of the sum of two places -/
def pI (r : List Int) (x y : Nat) : Nat := seatN r (sumP r (pl r x) (pl r y))
theorem pI_lt {r : List Int} (h : r ∈ RR) {x y : Nat} (hx : x < (placesL r).length) (hy : y < (placesL r).length) : pI r x y < (placesL r).length := seat_lt (sum_in r h _ (at_pl hx).2 _ (at_pl hy).2)
theorem mxJ_dot {c : Nat → Int} {r : List Int} (h : r ∈ RR) {x m : Nat} (hx : x < (placesL r).length) {ones : List Int} {B Ts : List (List Int)} (L : LenL Ts (placesL r).length m) (hl : ∀ j, ones.length + (B.getD j []).length ≤ m + 1) :
    ∀ J, J ≤ (placesL r).length → LenL (mxJ r (pl r x) ones B Ts J) (placesL r).length m ∧ ∀ z, z < (placesL r).length → dotc c ((mxJ r (pl r x) ones B Ts J).getD z []) = dotc c (Ts.getD z []) + sm J (fun y => if pI r x y = z then cP c ones (B.getD y []) else 0)
  | 0, _ => ⟨L, fun z _ => by show dotc c (Ts.getD z []) = dotc c (Ts.getD z []) + 0; omega⟩
  | J + 1, hJ => by
    have ih := mxJ_dot (c := c) h hx L hl J (by omega)
    have sl := pI_lt h hx (show J < (placesL r).length by omega)
    have tl := ih.1.get sl
    refine ⟨ih.1.set (by rw [mgA_len]; exact tl), fun z hz => ?_⟩
    show dotc c (((mxJ r (pl r x) ones B Ts J).set (pI r x J) (mgA ((mxJ r (pl r x) ones B Ts J).getD (pI r x J) []) ones (B.getD J []) ones.length)).getD z []) = dotc c (Ts.getD z []) + (sm J (fun y => if pI r x y = z then cP c ones (B.getD y []) else 0) + if pI r x J = z then cP c ones (B.getD J []) else 0)
    rw [getD_setL (by rw [ih.1.1]; exact sl)]
    by_cases e : z = pI r x J
    · rw [if_pos e, if_pos e.symm, dotc_mgA _ _ _ _ (by rw [tl]; exact hl J), ← e, ih.2 z hz]
      exact Int.add_assoc _ _ _
    · rw [if_neg e, if_neg (Ne.symm e), ih.2 z hz]
      omega
theorem mxI_dot {c : Nat → Int} {r : List Int} (h : r ∈ RR) {A B : List (List Int)} (la : ∀ i, (A.getD i []).length ≤ dg r) (lb : ∀ i, (B.getD i []).length ≤ dg r) :
    ∀ i, i ≤ (placesL r).length → LenL (mxI r A B i) (placesL r).length (2 * dg r - 1) ∧ ∀ z, z < (placesL r).length → dotc c ((mxI r A B i).getD z []) = sm i (fun x => sm (placesL r).length (fun y => if pI r x y = z then cP c (A.getD x []) (B.getD y []) else 0))
  | 0, _ => ⟨⟨List.length_replicate, fun T hT => by rw [List.eq_of_mem_replicate hT]; exact List.length_replicate⟩, fun z hz => by
      show dotc c ((List.replicate (placesL r).length (List.replicate (2 * dg r - 1) 0)).getD z []) = 0
      rw [List.getD_eq_getElem?_getD, List.getElem?_replicate, if_pos hz]
      exact dotc_zero _ _⟩
  | i + 1, hi => by
    have ih := mxI_dot (c := c) h la lb i (by omega)
    have d1 := (tabs_of h).d1
    show LenL (if someN (A.getD i []) = true then mxJ r (pl r i) (A.getD i []) B (mxI r A B i) (placesL r).length else mxI r A B i) _ _ ∧ ∀ z, z < (placesL r).length → dotc c ((if someN (A.getD i []) = true then mxJ r (pl r i) (A.getD i []) B (mxI r A B i) (placesL r).length else mxI r A B i).getD z []) = sm i _ + sm (placesL r).length (fun y => if pI r i y = z then cP c (A.getD i []) (B.getD y []) else 0)
    by_cases e : someN (A.getD i []) = true
    · rw [if_pos e]
      have q := mxJ_dot (c := c) h (show i < (placesL r).length by omega) (ones := A.getD i []) (B := B) ih.1 (fun j => by have := la i; have := lb j; omega) (placesL r).length (Nat.le_refl _)
      refine ⟨q.1, fun z hz => ?_⟩
      rw [q.2 z hz, ih.2 z hz]
    · rw [if_neg e]
      refine ⟨ih.1, fun z hz => ?_⟩
      have s0 : sm (placesL r).length (fun y => if pI r i y = z then cP c (A.getD i []) (B.getD y []) else 0) = 0 := by
        rw [sm_congr (g := fun _ => 0) (fun y _ => by rw [cP_zero e]; exact ite_self _), sm_zero]
      rw [s0, ih.2 z hz]
      omega
/-- products of vectors -/
def mw (r : List Int) (u v : Nat → Int) (j : Nat) : Int := sm (dg r) (fun i => u i * tn (dg r) (polyL (ordL r)) i v j)
theorem mw_congr {r : List Int} {u u' v v' : Nat → Int} (h1 : ∀ k, k < dg r → u k = u' k) (h2 : ∀ k, k < dg r → v k = v' k) (j : Nat) : mw r u v j = mw r u' v' j := sm_congr fun i hi => by rw [h1 i hi, tn_congr h2]
theorem mw_mul {r : List Int} (c d : Int) (u v : Nat → Int) (j : Nat) : mw r (fun k => c * u k) (fun k => d * v k) j = c * d * mw r u v j := by
  unfold mw
  rw [← sm_mul]
  refine sm_congr fun i _ => ?_
  rw [tn_mul]
  show c * u i * (d * _) = c * d * (u i * _)
  ac_rfl
theorem cP_mw {r : List Int} {ones others : List Int} (h1 : ones.length = dg r) (h2 : others.length = dg r) (j : Nat) : cP (Tz (dg r) (polyL (ordL r)) j) ones others = mw r (fun k => ones.getD k 0) (fun k => others.getD k 0) j := by
  unfold cP mw
  rw [h1, h2]
  refine sm_congr fun i _ => ?_
  unfold tn
  rw [← sm_mul]
  exact sm_congr fun k _ => Int.mul_assoc _ _ _
/-- the sum over all pairs of places that add up to one -/
def Wm (r : List Int) (u v : Nat → Nat → Int) (z j : Nat) : Int := sm (placesL r).length (fun x => sm (placesL r).length (fun y => if pI r x y = z then mw r (u x) (v y) j else 0))
theorem Wm_congr {r : List Int} {u u' v v' : Nat → Nat → Int} (h1 : ∀ x, x < (placesL r).length → ∀ k, k < dg r → u x k = u' x k) (h2 : ∀ y, y < (placesL r).length → ∀ k, k < dg r → v y k = v' y k) (z j : Nat) : Wm r u v z j = Wm r u' v' z j :=
  sm_congr fun x hx => sm_congr fun y hy => by rw [mw_congr (h1 x hx) (h2 y hy)]
theorem Wm_mul {r : List Int} (c d : Int) (u v : Nat → Nat → Int) (z j : Nat) : Wm r (fun x k => c * u x k) (fun y k => d * v y k) z j = c * d * Wm r u v z j := by
  unfold Wm
  rw [← sm_mul]
  refine sm_congr fun x _ => ?_
  rw [← sm_mul]
  refine sm_congr fun y _ => ?_
  rw [mw_mul]
  split
  · rfl
  · exact (Int.mul_zero _).symm
theorem levT_at {r : List Int} {ns : List Num} (C : RowC r ns) {i : Nat} (hi : i < (placesL r).length) : ((levT ns).getD i []).length = dg r := by
  rw [List.getD_eq_getElem?_getD, List.getElem?_eq_getElem (show i < (levT ns).length by rw [levT_len, C.len]; exact hi)]
  exact levT_dg C _ (List.getElem_mem _)
theorem levT_le {r : List Int} {ns : List Num} (C : RowC r ns) (i : Nat) : ((levT ns).getD i []).length ≤ dg r := by
  by_cases hi : i < (placesL r).length
  · rw [levT_at C hi]
    exact Nat.le_refl _
  · rw [List.getD_eq_getElem?_getD, List.getElem?_eq_none_iff.mpr (by rw [levT_len, C.len]; omega)]
    exact Nat.zero_le _
theorem mixT_at {r : List Int} (h : r ∈ RR) {a b : List Num} (A : RowC r a) (B : RowC r b) {z : Nat} {t : List Int} (ht : (mixT r a b)[z]? = some t) : z < (placesL r).length ∧ t.length = dg r ∧ ∀ j, j < dg r → t.getD j 0 = Wm r (wv (levT a)) (wv (levT b)) z j := by
  have hp := poly_len h
  have M := fun j => mxI_dot (c := Tz (dg r) (polyL (ordL r)) j) h (levT_le A) (levT_le B) (placesL r).length (Nat.le_refl _)
  unfold mixT at ht
  rw [List.getElem?_map] at ht
  obtain ⟨T, hT, rfl⟩ := Option.map_eq_some_iff.mp ht
  have hz : z < (placesL r).length := by
    have q := ltL hT
    rw [(M 0).1.1] at q
    exact q
  refine ⟨hz, redL_len' (by omega), fun j hj => ?_⟩
  rw [red_ph (by omega) hj]
  have g : (mxI r (levT a) (levT b) (placesL r).length).getD z [] = T := by
    rw [List.getD_eq_getElem?_getD, hT]
    rfl
  have q := (M j).2 z hz
  rw [g] at q
  refine Eq.trans q ?_
  refine sm_congr fun x hx => sm_congr fun y hy => ?_
  rw [cP_mw (levT_at A hx) (levT_at B hy)]
theorem mix_get {r : List Int} {a b : List Num} {z : Nat} {n : Num} (hn : (mixL r a b)[z]? = some n) : ∃ t, (mixT r a b)[z]? = some t ∧ n = lowL t (levB a * levB b) := by
  unfold mixL at hn
  rw [List.getElem?_map] at hn
  obtain ⟨t, ht, e⟩ := Option.map_eq_some_iff.mp hn
  exact ⟨t, ht, e.symm⟩
theorem mixL_len {r : List Int} (h : r ∈ RR) {a b : List Num} (A : RowC r a) (B : RowC r b) : (mixL r a b).length = (placesL r).length := by
  unfold mixL mixT
  rw [List.length_map, List.length_map]
  exact (mxI_dot (c := fun _ => 0) h (levT_le A) (levT_le B) (placesL r).length (Nat.le_refl _)).1.1
theorem levB_one {r : List Int} {ns : List Num} (C : RowC r ns) : 1 ≤ levB ns := levB_pos fun n hn => (C.num n hn).pos
theorem rowC_mix {r : List Int} (h : r ∈ RR) {a b : List Num} (A : RowC r a) (B : RowC r b) : RowC r (mixL r a b) := by
  refine ⟨mixL_len h A B, fun n hn => ?_⟩
  obtain ⟨z, hz⟩ := List.mem_iff_getElem?.mp hn
  obtain ⟨t, ht, rfl⟩ := mix_get hz
  exact numC_low (mul1 (levB_one A) (levB_one B)) (mixT_at h A B ht).2.1
theorem lev_vec {r : List Int} {ns : List Num} (C : RowC r ns) {M : Int} {u : Nat → Nat → Int} (hu : ∀ (i : Nat) n, ns[i]? = some n → Rp (dg r) n M (u i)) {x : Nat} (hx : x < (placesL r).length) {k : Nat} (hk : k < dg r) : levB ns * u x k = M * wv (levT ns) x k := by
  obtain ⟨n, hn⟩ := get_lt (show x < ns.length by rw [C.len]; exact hx)
  have e1 := hu x n hn k hk
  have e2 := Rp_lev C hn k hk
  have p := (C.num n (List.mem_of_getElem? hn)).pos
  refine icancel p ?_
  have f1 : n.2 * (levB ns * u x k) = levB ns * (n.2 * u x k) := by ac_rfl
  have f2 : n.2 * (M * wv (levT ns) x k) = M * (n.2 * wv (levT ns) x k) := by ac_rfl
  rw [f1, f2, e1, e2]
  ac_rfl
theorem Rp_mix {r : List Int} (h : r ∈ RR) {a b : List Num} (A : RowC r a) (B : RowC r b) {M N : Int} {u v : Nat → Nat → Int} (hu : ∀ (i : Nat) n, a[i]? = some n → Rp (dg r) n M (u i)) (hv : ∀ (i : Nat) n, b[i]? = some n → Rp (dg r) n N (v i))
    {z : Nat} {n : Num} (hn : (mixL r a b)[z]? = some n) : Rp (dg r) n (M * N) (Wm r u v z) := by
  obtain ⟨t, ht, rfl⟩ := mix_get hn
  refine Rp_of_low (mul1 (levB_one A) (levB_one B)) fun j hj => ?_
  rw [(mixT_at h A B ht).2.2 j hj, ← Wm_mul, ← Wm_mul]
  exact Wm_congr (fun x hx k hk => lev_vec A hu hx hk) (fun y hy k hk => lev_vec B hv hy hk) z j
/-! ### mixed rows moved, mirrored, turned about -/
theorem sumP_comm (r x y : List Int) : sumP r x y = sumP r y x := by
  unfold sumP
  exact List.map_congr_left fun k _ => by rw [Int.add_comm]
theorem pl_pI {r : List Int} (h : r ∈ RR) {x y : Nat} (hx : x < (placesL r).length) (hy : y < (placesL r).length) : pl r (pI r x y) = sumP r (pl r x) (pl r y) := by
  show (placesL r).getD ((placesL r).idxOf _) [] = _
  rw [List.getD_eq_getElem?_getD, idx_get (sum_in r h _ (at_pl hx).2 _ (at_pl hy).2)]
  rfl
theorem fw_pI {r s : List Int} (h : r ∈ RR) (hs : s ∈ placesL r) {x y : Nat} (hx : x < (placesL r).length) (hy : y < (placesL r).length) : pI r (fwI r s x) y = fwI r s (pI r x y) := by
  have e1 := (fw_ok h hs hx).2.1
  have e2 := pl_pI h hx hy
  unfold pl at e2
  show (placesL r).idxOf (sumP r ((placesL r).getD (fwI r s x) []) (pl r y)) = (placesL r).idxOf (sumP r ((placesL r).getD (pI r x y) []) s)
  rw [e1, e2, ← sumP_assoc, ← sumP_assoc, sumP_comm r s (pl r y)]
theorem op_pI : ∀ r ∈ RR, ∀ x ∈ List.range (placesL r).length, ∀ y ∈ List.range (placesL r).length, pI r (opI r x) (opI r y) = opI r (pI r x y) := by decide +kernel
theorem mov_mix {r s : List Int} (h : r ∈ RR) (hs : s ∈ placesL r) {a b : List Num} (A : RowC r a) (B : RowC r b) : movL r s (mixL r a b) = mixL r (movL r s a) b := by
  have Am : RowC r (movL r s a) := rowC_laid A (movP_len r s) (mov_all r h s hs)
  have C := rowC_mix h A B
  refine rows_eq (rowC_laid C (movP_len r s) (mov_all r h s hs)) (rowC_mix h Am B) (mul1 (levB_one A) (levB_one B)) (w := fun i => Wm r (wv (levT a)) (wv (levT b)) (mvI r s i)) (fun i n hn => ?_) (fun i n hn => ?_)
  · exact Rp_mix h A B (fun i n e => Rp_lev A e) (fun i n e => Rp_lev B e) (mov_some h hs C.len hn).2
  · have hi : i < (placesL r).length := by rw [← mixL_len h Am B]; exact ltL hn
    have q := Rp_mix h Am B (u := fun x => wv (levT a) (mvI r s x)) (fun i n e => Rp_lev A (mov_some h hs A.len e).2) (fun i n e => Rp_lev B e) hn
    refine Rp_congr (fun k hk => ?_) q
    have e := sm_reidx (f := fun x => sm (placesL r).length (fun y => if pI r x y = i then mw r (wv (levT a) (mvI r s x)) (wv (levT b) y) k else 0)) (σ := fwI r s) (τ := mvI r s) (n := (placesL r).length) (fun b hb => (fw_ok h hs hb).1) (fun b hb => (fw_ok h hs hb).2.2) (fun a ha => mv_ok h hs ha)
    refine Eq.trans e.symm ?_
    refine sm_congr fun x hx => sm_congr fun y hy => ?_
    show (if pI r (fwI r s x) y = i then mw r (wv (levT a) (mvI r s (fwI r s x))) (wv (levT b) y) k else 0) = _
    rw [(fw_ok h hs hx).2.2, fw_pI h hs hx hy]
    have g := fw_ok h hs (pI_lt h hx hy)
    by_cases c : pI r x y = mvI r s i
    · rw [if_pos c, if_pos (by rw [c]; exact (mv_ok h hs hi).2)]
    · rw [if_neg c, if_neg (fun z => c (by rw [← z]; exact g.2.2.symm))]
theorem mir_mix {r : List Int} (h : r ∈ RR) {a b : List Num} (A : RowC r a) (B : RowC r b) : mirL r (mixL r a b) = mixL r (mirL r a) (mirL r b) := by
  have Am : RowC r (mirL r a) := rowC_laid A (mirP_len r) (mir_all r h)
  have Bm : RowC r (mirL r b) := rowC_laid B (mirP_len r) (mir_all r h)
  have C := rowC_mix h A B
  have op : ∀ i, i < (placesL r).length → opI r i < (placesL r).length ∧ opI r (opI r i) = i := fun i hi => op_ok r h i (List.mem_range.mpr hi)
  refine rows_eq (rowC_laid C (mirP_len r) (mir_all r h)) (rowC_mix h Am Bm) (mul1 (levB_one A) (levB_one B)) (w := fun i => Wm r (wv (levT a)) (wv (levT b)) (opI r i)) (fun i n hn => ?_) (fun i n hn => ?_)
  · exact Rp_mix h A B (fun i n e => Rp_lev A e) (fun i n e => Rp_lev B e) (mir_some h C.len hn).2
  · have hi : i < (placesL r).length := by rw [← mixL_len h Am Bm]; exact ltL hn
    have q := Rp_mix h Am Bm (u := fun x => wv (levT a) (opI r x)) (v := fun x => wv (levT b) (opI r x)) (fun i n e => Rp_lev A (mir_some h A.len e).2) (fun i n e => Rp_lev B (mir_some h B.len e).2) hn
    refine Rp_congr (fun k hk => ?_) q
    have e := sm_reidx (f := fun x => sm (placesL r).length (fun y => if pI r x y = i then mw r (wv (levT a) (opI r x)) (wv (levT b) (opI r y)) k else 0)) (σ := opI r) (τ := opI r) (n := (placesL r).length) (fun b hb => (op b hb).1) (fun b hb => (op b hb).2) op
    refine Eq.trans e.symm ?_
    refine sm_congr fun x hx => ?_
    have e2 := sm_reidx (f := fun y => if pI r (opI r x) y = i then mw r (wv (levT a) (opI r (opI r x))) (wv (levT b) (opI r y)) k else 0) (σ := opI r) (τ := opI r) (n := (placesL r).length) (fun b hb => (op b hb).1) (fun b hb => (op b hb).2) op
    refine Eq.trans e2.symm ?_
    refine sm_congr fun y hy => ?_
    show (if pI r (opI r x) (opI r y) = i then mw r (wv (levT a) (opI r (opI r x))) (wv (levT b) (opI r (opI r y))) k else 0) = _
    rw [(op x hx).2, (op y hy).2, op_pI r h x (List.mem_range.mpr hx) y (List.mem_range.mpr hy)]
    have g := op _ (pI_lt h hx hy)
    by_cases c : pI r x y = opI r i
    · rw [if_pos c, if_pos (by rw [c]; exact (op i hi).2)]
    · rw [if_neg c, if_neg (fun z => c (by rw [← z]; exact g.2.symm))]
theorem exv_sm {e : Int} (n : Nat) (f : Nat → Nat → Int) (j : Nat) : exv e (fun k => sm n (fun i => f i k)) j = sm n (fun i => exv e (f i) j) := by
  unfold exv
  rw [← sm_swap]
  exact sm_congr fun m _ => by rw [← sm_mulR]
theorem exv_mul {e : Int} (c : Int) (w : Nat → Int) (j : Nat) : exv e (fun k => c * w k) j = c * exv e w j := by
  unfold exv
  rw [← sm_mul]
  exact sm_congr fun m _ => Int.mul_assoc _ _ _
/-- a sum of turns by the items of a turn -/
theorem tn_sum {r : List Int} (h : r ∈ RR) (p : Nat) (v : Nat → Int) (j : Nat) : sm (dg r) (fun k => Tz (dg r) (polyL (ordL r)) k p * tn (dg r) (polyL (ordL r)) k v j) = tn (dg r) (polyL (ordL r)) p v j := by
  have T := tabs_of h
  have a : sm (dg r) (fun k => Tz (dg r) (polyL (ordL r)) k p * tn (dg r) (polyL (ordL r)) k v j) = sm (dg r) (fun k => sm (dg r) (fun l => v l * (Tz (dg r) (polyL (ordL r)) k p * Tz (dg r) (polyL (ordL r)) j (l + k)))) := by
    refine sm_congr fun k _ => ?_
    unfold tn
    rw [← sm_mul]
    refine sm_congr fun l _ => ?_
    rw [Nat.add_comm k l]
    ac_rfl
  rw [a, sm_swap]
  refine sm_congr fun l _ => ?_
  rw [sm_mul]
  have q := tn_T (dg r) (polyL (ordL r)) l j T.d1 p
  unfold tn at q
  rw [q, Nat.add_comm l p]
theorem ex_mw {r : List Int} (h : r ∈ RR) (u v : Nat → Int) {j : Nat} (hj : j < dg r) : exv (ordL r) (mw r u v) j = mw r (exv (ordL r) u) (exv (ordL r) v) j := by
  have e1 : exv (ordL r) (mw r u v) j = sm (dg r) (fun i => u i * tn (dg r) (polyL (ordL r)) (ng (ordL r) i) (exv (ordL r) v) j) := by
    have a : exv (ordL r) (mw r u v) j = sm (dg r) (fun i => exv (ordL r) (fun k => u i * tn (dg r) (polyL (ordL r)) i v k) j) := exv_sm _ _ _
    rw [a]
    refine sm_congr fun i _ => ?_
    rw [exv_mul, ex_tn h _ _ hj]
  have e2 : mw r (exv (ordL r) u) (exv (ordL r) v) j = sm (dg r) (fun i => u i * tn (dg r) (polyL (ordL r)) (ng (ordL r) i) (exv (ordL r) v) j) := by
    have a : mw r (exv (ordL r) u) (exv (ordL r) v) j = sm (dg r) (fun k => sm (dg r) (fun i => u i * (Tz (dg r) (polyL (ordL r)) k (ng (ordL r) i) * tn (dg r) (polyL (ordL r)) k (exv (ordL r) v) j))) := by
      refine sm_congr fun k _ => ?_
      show sm (dg r) (fun i => u i * Tz (dg r) (polyL (ordL r)) k (ng (ordL r) i)) * _ = _
      rw [← sm_mulR]
      exact sm_congr fun i _ => Int.mul_assoc _ _ _
    rw [a, sm_swap]
    refine sm_congr fun i _ => ?_
    rw [sm_mul, tn_sum h]
  rw [e1, e2]
theorem ex_Wm {r : List Int} (h : r ∈ RR) (u v : Nat → Nat → Int) (z : Nat) {j : Nat} (hj : j < dg r) : exv (ordL r) (Wm r u v z) j = Wm r (fun x => exv (ordL r) (u x)) (fun y => exv (ordL r) (v y)) z j := by
  have a : exv (ordL r) (Wm r u v z) j = sm (placesL r).length (fun x => exv (ordL r) (fun k => sm (placesL r).length (fun y => if pI r x y = z then mw r (u x) (v y) k else 0)) j) := exv_sm _ _ _
  rw [a]
  refine sm_congr fun x _ => ?_
  have b : exv (ordL r) (fun k => sm (placesL r).length (fun y => if pI r x y = z then mw r (u x) (v y) k else 0)) j = sm (placesL r).length (fun y => exv (ordL r) (fun k => if pI r x y = z then mw r (u x) (v y) k else 0) j) := exv_sm _ _ _
  rw [b]
  refine sm_congr fun y _ => ?_
  by_cases c : pI r x y = z
  · rw [if_pos c]
    refine Eq.trans (exv_congr (fun k _ => if_pos c) j) (ex_mw h _ _ hj)
  · rw [if_neg c]
    refine Eq.trans (exv_congr (w := fun _ => 0) (fun k _ => if_neg c) j) ?_
    unfold exv
    rw [sm_congr (g := fun _ => 0) (fun m _ => Int.zero_mul _), sm_zero]
theorem tr_mix {r : List Int} (h : r ∈ RR) {a b : List Num} (A : RowC r a) (B : RowC r b) : trL r (mixL r a b) = mixL r (trL r a) (trL r b) := by
  have Am := rowC_tr h A
  have Bm := rowC_tr h B
  have C := rowC_mix h A B
  refine rows_eq (rowC_tr h C) (rowC_mix h Am Bm) (mul1 (levB_one A) (levB_one B)) (w := fun i => exv (ordL r) (Wm r (wv (levT a)) (wv (levT b)) i)) (fun i n hn => ?_) (fun i n hn => ?_)
  · obtain ⟨m, hm, rfl⟩ := tr_some hn
    exact Rp_ex h (C.num m (List.mem_of_getElem? hm)) (Rp_mix h A B (fun i n e => Rp_lev A e) (fun i n e => Rp_lev B e) hm)
  · have q := Rp_mix h Am Bm (u := fun x => exv (ordL r) (wv (levT a) x)) (v := fun x => exv (ordL r) (wv (levT b) x)) (fun i n e => by
      obtain ⟨m, hm, rfl⟩ := tr_some e
      exact Rp_ex h (A.num m (List.mem_of_getElem? hm)) (Rp_lev A hm)) (fun i n e => by
      obtain ⟨m, hm, rfl⟩ := tr_some e
      exact Rp_ex h (B.num m (List.mem_of_getElem? hm)) (Rp_lev B hm)) hn
    exact Rp_congr (fun k hk => (ex_Wm h _ _ _ hk).symm) q
end K45

/-! loudness, lifted. -/
namespace K45
open PySem PySem.Spec PyProof.Rows L2
def loudL (e : Int) (n : Num) : Num := prodL e n (exL e n (-1))
section
variable {P : Program} {w : World} {K : PySem.W.Frag} {mg : Str → Option Value} {base : Heap} {f f1 f2 f3 f4 f5 C fI fM : Addr} {fd fd1 fd2 fd3 fd4 fd5 fdI : FuncData}
def spLoud (K : PySem.W.Frag) : Sp := fun vs H Q _ => ∃ (e : Int) (v : V) (n : Num), vs = [.int e, v] ∧ e ∈ ER ∧ NumAt K H v n ∧ NumOk e n ∧ (∀ t ∈ n.1, -(2 ^ 64) < t ∧ t < 2 ^ 64) ∧ ∀ v' H', Same H H' → NumAt K H' v' (loudL e n) → Q v' H'
abbrev loN : List Str := ["order", "number", "tops", "bottom"]
theorem scLoud : FnScope loN ["order", "number"] (defScope sLoud) := ⟨rfl, rfl, rfl, by decide +kernel, rfl, by decide +kernel, by decide +kernel⟩
theorem ok_loud (F : FnP K "loudness" sLoud f fd) (F1 : FnP K "check_number" sChkN f1 fd1) (g1 : mg "check_number" = some (.ref f1)) (G1 : FnOk P w K mg base CX0 5 f1 fd1 ["order", "number"] (spChkN K)) (F2 : FnP K "_product" sProd f2 fd2) (g2 : mg "_product" = some (.ref f2)) (G2 : FnOk P w K mg base CX0 4 f2 fd2 ["order", "one", "other"] (spProd K))
    (F3 : FnP K "exchanged_tops" sExT f3 fd3) (g3 : mg "exchanged_tops" = some (.ref f3)) (G3 : FnOk P w K mg base CX0 3 f3 fd3 ["tops", "order", "j", "polynomial"] (spExT K)) (F4 : FnP K "polynomial_of" sPoly f4 fd4) (g4 : mg "polynomial_of" = some (.ref f4)) (G4 : FnOk P w K mg base CX0 2 f4 fd4 ["order"] (spPoly K)) :
    FnOk P w K mg base CX0 6 f fd ["order", "number"] (spLoud K) := by
  have b1 : Binds K fd1 ["order", "number"] [] := F1.bindsN fun _ _ _ _ _ _ us hl => match us, hl with | [_, _], _ => rfl
  have b2 : Binds K fd2 ["order", "one", "other"] [] := F2.bindsN fun _ _ _ _ _ _ us hl => match us, hl with | [_, _, _], _ => rfl
  have b3 : Binds K fd3 ["tops", "order", "j", "polynomial"] [] := F3.bindsN fun _ _ _ _ _ _ us hl => match us, hl with | [_, _, _, _], _ => rfl
  have b4 : Binds K fd4 ["order"] [] := F4.bindsN fun _ _ _ _ _ _ us hl => match us, hl with | [_], _ => rfl
  refine F.ok scLoud (fun vs H Q E h => ?_) (fun cdv A outer s H vs Q E hr h => ?_)
  · obtain ⟨e, v, n, rfl, _⟩ := h
    rfl
  · obtain ⟨e, v, n, rfl, he, hv, ok, bd, k⟩ := h
    refine ⟨_, PSs.nox (pss_cons (ps_expr (pe_call G1 hr rfl g1 F1.kp b1 .nil pass0 (pa_cons (pv 0) (pa_cons (pv 1) pa_nil))))
      (pss_cons (ps_asg (pv 1) (pg_tup rfl (pgs_cons (pg_name (i := 2) scLoud.nd rfl (Or.inl rfl)) (pgs_cons (pg_name (i := 3) scLoud.nd rfl (Or.inl rfl)) pgs_nil))))
      (pss_one (ps_ret (pe_call G2 (hr.mono (by decide)) rfl g2 F2.kp b2 .nil pass0 (pa_cons (pv 0) (pa_cons (pv 1) (pa_cons (pe_tup (pa_cons (pe_call G3 (hr.mono (by decide)) rfl g3 F3.kp b3 .nil pass0 (pa_cons (pv 2) (pa_cons (pv 0) (pa_cons (pe_un un_neg pe_int) (pa_cons (pe_call G4 (hr.mono (by decide)) rfl g4 F4.kp b4 .nil pass0 (pa_cons (pv 0) pa_nil)) pa_nil))))) (pa_cons (pv 3) pa_nil))) pa_nil)))))))), ?_⟩
    have eb := er_bd e he
    have eu := er_units e he
    have ol := ok.len
    have ep := er_poly e he
    refine ⟨_, rfl, _, rfl, e, _, n, rfl, by omega, by omega, hv, ok, fun H1 s1 => ?_⟩
    obtain ⟨p, t, rfl, hp, ht⟩ := s1.num hv
    refine ⟨_, rfl, p, _, rfl, hp, rfl, _, _, rfl, _, _, rfl, rfl, ?_⟩
    refine ⟨_, rfl, _, rfl, _, rfl, _, rfl, _, rfl, _, rfl, e, rfl, he, fun po H2 s2 npo h2 => ?_⟩
    refine ⟨t, po, n.1, e, -1, rfl, s2.tup ht, SqT.of h2, he, by decide, by decide, by omega, fun t2 H3 s3 nt2 h3 => ?_⟩
    refine ⟨_, rfl, by show 2 ≤ sizeLine; decide, fun q hq => ?_⟩
    have s4 : Same H3 (upd H3 q (.tup [.ref t2, .int n.2])) := same_upd hq
    have t4 := (s2.trans s3).trans s4
    have lx : (exT e (-1) n.1).length = (unitsL e).length := by
      unfold exT
      rw [redL_len (by omega), er_deg e he]
    refine ⟨e, _, _, n, exL e n (-1), rfl, he, ⟨p, t, rfl, t4.tup hp, t4.tup ht⟩, ⟨q, t2, rfl, SqT.of upd_same, s4.tup (SqT.of h3)⟩, ol, lx, ok.pos, ok.big, ok.pos, ok.big, .inl bd, fun v' H5 s5 hv' => ?_⟩
    exact k v' H5 ((s1.trans t4).trans s5) hv'
end
end K45

/-! The loudnesses of all voices together. -/
namespace K45
open PySem PySem.Spec PyProof.Rows L2
theorem mw_add_sm {r : List Int} (n : Nat) (f : Nat → Nat → Int) (v : Nat → Int) (j : Nat) : mw r (fun k => sm n (fun i => f i k)) v j = sm n (fun i => mw r (f i) v j) := by
  unfold mw
  rw [← sm_swap]
  exact sm_congr fun k _ => by rw [← sm_mulR]
theorem mw_sm_r {r : List Int} (n : Nat) (u : Nat → Int) (f : Nat → Nat → Int) (j : Nat) : mw r u (fun k => sm n (fun i => f i k)) j = sm n (fun i => mw r u (f i) j) := by
  unfold mw
  rw [← sm_swap]
  exact sm_congr fun k _ => by rw [tn_sm, sm_mul]
theorem mw_tn {r : List Int} (h : r ∈ RR) (p q : Nat) (u v : Nat → Int) (j : Nat) : mw r (tn (dg r) (polyL (ordL r)) p u) (tn (dg r) (polyL (ordL r)) q v) j = tn (dg r) (polyL (ordL r)) p (tn (dg r) (polyL (ordL r)) q (mw r u v)) j := by
  have d1 := (tabs_of h).d1
  have e1 : mw r (tn (dg r) (polyL (ordL r)) p u) (tn (dg r) (polyL (ordL r)) q v) j = sm (dg r) (fun k => u k * tn (dg r) (polyL (ordL r)) (p + k) (tn (dg r) (polyL (ordL r)) q v) j) := by
    have a : mw r (tn (dg r) (polyL (ordL r)) p u) (tn (dg r) (polyL (ordL r)) q v) j = sm (dg r) (fun i => sm (dg r) (fun k => u k * (Tz (dg r) (polyL (ordL r)) i (p + k) * tn (dg r) (polyL (ordL r)) i (tn (dg r) (polyL (ordL r)) q v) j))) := by
      refine sm_congr fun i _ => ?_
      show sm (dg r) (fun k => u k * Tz (dg r) (polyL (ordL r)) i (p + k)) * _ = _
      rw [← sm_mulR]
      exact sm_congr fun k _ => Int.mul_assoc _ _ _
    rw [a, sm_swap]
    refine sm_congr fun k _ => ?_
    rw [sm_mul, tn_sum h]
  have e2 : tn (dg r) (polyL (ordL r)) p (tn (dg r) (polyL (ordL r)) q (mw r u v)) j = sm (dg r) (fun k => u k * tn (dg r) (polyL (ordL r)) (p + k) (tn (dg r) (polyL (ordL r)) q v) j) := by
    rw [tn_tn _ _ _ _ _ _ d1]
    have a : tn (dg r) (polyL (ordL r)) (p + q) (mw r u v) j = sm (dg r) (fun i => tn (dg r) (polyL (ordL r)) (p + q) (fun k => u i * tn (dg r) (polyL (ordL r)) i v k) j) := tn_sm _ _ _ _ _ _
    rw [a]
    refine sm_congr fun i _ => ?_
    rw [tn_mul, tn_tn _ _ _ _ _ _ d1, tn_tn _ _ _ _ _ _ d1]
    congr 2
    omega
  rw [e1, e2]
/-- a product, by the vectors of both -/
theorem Rp_prod2 {r : List Int} (h : r ∈ RR) {a b : Num} {M N : Int} {u v : Nat → Int} (ha : NumC (dg r) a) (hb : NumC (dg r) b) (ra : Rp (dg r) a M u) (rb : Rp (dg r) b N v) : Rp (dg r) (prodL (ordL r) a b) (M * N) (mw r u v) := by
  intro j hj
  have q := Rp_prod h ha hb rb j hj
  have e : a.2 * mw r u v j = M * mv r a.1 v j := by
    have e1 : mv r a.1 v j = mw r (fun k => a.1.getD k 0) v j := rfl
    have e2 := mw_mul (r := r) a.2 1 u v j
    have e3 := mw_mul (r := r) M 1 (fun k => a.1.getD k 0) v j
    rw [Int.mul_one] at e2 e3
    rw [e1, ← e2, ← e3]
    exact mw_congr (fun k hk => ra k hk) (fun _ _ => rfl) j
  refine icancel ha.pos ?_
  have f1 : a.2 * ((prodL (ordL r) a b).2 * mw r u v j) = (prodL (ordL r) a b).2 * (a.2 * mw r u v j) := by ac_rfl
  rw [f1, e]
  have f2 : (prodL (ordL r) a b).2 * (M * mv r a.1 v j) = M * ((prodL (ordL r) a b).2 * mv r a.1 v j) := by ac_rfl
  rw [f2, q]
  ac_rfl
/-- numbers of one order, each a vector over M -/
structure Reps (r : List Int) (xs : List Num) (M : Int) (u : Nat → Nat → Int) : Prop where
  c : ∀ n ∈ xs, NumC (dg r) n
  r : ∀ (i : Nat) n, xs[i]? = some n → Rp (dg r) n M (u i)
theorem reps_tot {r : List Int} {xs : List Num} {M : Int} {u : Nat → Nat → Int} (h : Reps r xs M u) (hM : 1 ≤ M) : ∀ i, i ≤ xs.length → Rp (dg r) (totL r (xs.take i)) M (fun k => sm i (fun a => u a k))
  | 0, _ => fun k hk => by
    show (1 : Int) * 0 = M * (List.replicate (dg r) (0 : Int)).getD k 0
    rw [List.getD_eq_getElem?_getD, List.getElem?_replicate]
    simp [hk]
  | i + 1, hi => by
    have ih := reps_tot h hM i (by omega)
    obtain ⟨n, hn⟩ := get_lt (show i < xs.length by omega)
    rw [List.take_succ, hn]
    show Rp (dg r) ((xs.take i ++ [n]).foldl _ _) _ _
    rw [List.foldl_append]
    have q := Rp_sum (numC_tot h.c i) (h.c n (List.mem_of_getElem? hn)) ih (h.r i n hn)
    refine Rp_cancel (c := M) hM ?_
    refine Rp_congr (fun k hk => ?_) q
    show _ = M * (sm i (fun a => u a k) + u i k)
    rw [Int.mul_add]
theorem tot_low {r : List Int} {xs : List Num} {M : Int} {u : Nat → Nat → Int} (h : Reps r xs M u) (hM : 1 ≤ M) {i : Nat} (hi : i ≤ xs.length) : totL r (xs.take i) = lowL (vecL (dg r) (fun k => sm i (fun a => u a k))) M :=
  Rp_eq hM (numC_tot h.c i) (numC_low hM (by unfold vecL; simp)) (reps_tot h hM i hi) (Rp_of_low hM fun k hk => by rw [vecL_get hk])
theorem reps_lev {r : List Int} {ns : List Num} (C : RowC r ns) : Reps r ns (levB ns) (wv (levT ns)) := ⟨C.num, fun _ _ e => Rp_lev C e⟩
theorem reps_vo {r : List Int} (h : r ∈ RR) {ns : List Num} (C : RowC r ns) : Reps r (voL r ns) (levB ns) (fun i => Tq r 1 (pl r i) (wv (levT ns))) := ⟨(rowC_vo h C).num, fun _ _ e => Rp_vo h C (levB_one C) (fun a b hb => Rp_lev C hb) e⟩
theorem reps_loud {r : List Int} (h : r ∈ RR) {xs : List Num} {M : Int} {u : Nat → Nat → Int} (H : Reps r xs M u) : Reps r (xs.map (loudL (ordL r))) (M * M) (fun i => mw r (u i) (exv (ordL r) (u i))) := by
  refine ⟨fun n hn => ?_, fun i n hn => ?_⟩
  · obtain ⟨m, hm, rfl⟩ := List.mem_map.mp hn
    exact numC_prod h (H.c m hm) (numC_ex (ord_er r h) (H.c m hm))
  · rw [List.getElem?_map] at hn
    obtain ⟨m, hm, rfl⟩ := Option.map_eq_some_iff.mp hn
    have c := H.c m (List.mem_of_getElem? hm)
    exact Rp_prod2 h c (numC_ex (ord_er r h) c) (H.r i m hm) (Rp_ex h c (H.r i m hm))
theorem ng_cast {e : Int} (he : 0 < e) (m : Nat) : ((ng e m : Nat) : Int) = ((m : Int) * -1) % e := Int.toNat_of_nonneg (Int.emod_nonneg _ (by omega))
/-- all voices are as loud as all items, n times -/
theorem parseval {r : List Int} (h : r ∈ RR) (w : Nat → Nat → Int) {j : Nat} (hj : j < dg r) :
    sm (placesL r).length (fun l => mw r (Tq r 1 (pl r l) w) (exv (ordL r) (Tq r 1 (pl r l) w)) j) = ((placesL r).length : Nat) * sm (placesL r).length (fun x => mw r (w x) (exv (ordL r) (w x)) j) := by
  have B := tabs_of h
  have he := B.e0
  -- one voice
  have one : ∀ l, mw r (Tq r 1 (pl r l) w) (exv (ordL r) (Tq r 1 (pl r l) w)) j = sm (placesL r).length (fun x => sm (placesL r).length (fun y => tn (dg r) (polyL (ordL r)) (pw r (ordL r) 1 (pl r x) (pl r l)) (tn (dg r) (polyL (ordL r)) (ng (ordL r) (pw r (ordL r) 1 (pl r y) (pl r l))) (mw r (w x) (exv (ordL r) (w y)))) j)) := fun l => by
    have a : mw r (Tq r 1 (pl r l) w) (exv (ordL r) (Tq r 1 (pl r l) w)) j = sm (placesL r).length (fun x => mw r (tn (dg r) (polyL (ordL r)) (pw r (ordL r) 1 (pl r x) (pl r l)) (w x)) (exv (ordL r) (Tq r 1 (pl r l) w)) j) := mw_add_sm _ _ _ _
    rw [a]
    refine sm_congr fun x _ => ?_
    have b : mw r (tn (dg r) (polyL (ordL r)) (pw r (ordL r) 1 (pl r x) (pl r l)) (w x)) (exv (ordL r) (Tq r 1 (pl r l) w)) j = mw r (tn (dg r) (polyL (ordL r)) (pw r (ordL r) 1 (pl r x) (pl r l)) (w x)) (fun k => sm (placesL r).length (fun y => tn (dg r) (polyL (ordL r)) (ng (ordL r) (pw r (ordL r) 1 (pl r y) (pl r l))) (exv (ordL r) (w y)) k)) j := by
      refine mw_congr (fun _ _ => rfl) (fun k hk => ?_) j
      have c : exv (ordL r) (Tq r 1 (pl r l) w) k = sm (placesL r).length (fun y => exv (ordL r) (tn (dg r) (polyL (ordL r)) (pw r (ordL r) 1 (pl r y) (pl r l)) (w y)) k) := exv_sm _ _ _
      rw [c]
      exact sm_congr fun y _ => ex_tn h _ _ hk
    rw [b, mw_sm_r]
    exact sm_congr fun y _ => mw_tn h _ _ _ _ _
  rw [sm_congr fun l _ => one l, sm_swap, ← sm_mul]
  refine sm_congr fun x hx => ?_
  rw [sm_swap]
  have row : ∀ y, y < (placesL r).length → sm (placesL r).length (fun l => tn (dg r) (polyL (ordL r)) (pw r (ordL r) 1 (pl r x) (pl r l)) (tn (dg r) (polyL (ordL r)) (ng (ordL r) (pw r (ordL r) 1 (pl r y) (pl r l))) (mw r (w x) (exv (ordL r) (w y)))) j) = if y = x then ((placesL r).length : Nat) * mw r (w x) (exv (ordL r) (w y)) j else 0 := fun y hy => by
    obtain ⟨c, hc, pc, ec⟩ := B.dif x hx y hy
    rw [inv1 B hc (fun li hli => ?_) _ hj]
    · by_cases e : y = x
      · rw [if_pos e, if_pos (ec.mpr e.symm)]
      · rw [if_neg e, if_neg (fun z => e (ec.mp z).symm)]
    · rw [pw_cast he, ng_cast he, pw_cast he, Int.emod_add_emod, Int.add_emod_emod, pc]
      rw [← pair_difL he _ _ _ B.div]
      have z : (1 * pairL r (ordL r) (pl r y) (pl r li) % ordL r * -1) % ordL r = (-(1 * pairL r (ordL r) (pl r y) (pl r li))) % ordL r := by
        rw [Int.mul_emod, Int.emod_emod, ← Int.mul_emod]
        congr 1
        omega
      rw [← Int.add_emod_emod, z, Int.add_emod_emod]
      congr 1
      show 1 * pairL r (ordL r) (pl r x) (pl r li) + -(1 * pairL r (ordL r) (pl r y) (pl r li)) = pairL r (ordL r) (pl r x) (pl r li) - pairL r (ordL r) (pl r y) (pl r li)
      omega
  rw [sm_congr row, sm_delta (f := fun y => ((placesL r).length : Nat) * mw r (w x) (exv (ordL r) (w y)) j), if_pos hx]
end K45

/-! is_zero, filled, sounding. -/
namespace K45
open PySem PySem.Spec PyProof.Rows L2
/-- a tuple of places -/
def PlT (K : PySem.W.Frag) (H : Hp) (v : V) (ps : List (List Int)) : Prop := ∃ p ks, v = .ref p ∧ SqT K H p (rf ks) ∧ ks.map (·.2) = ps ∧ TL K H ks
section
variable {P : Program} {w : World} {K : PySem.W.Frag} {mg : Str → Option Value} {base : Heap} {f f1 f2 f3 f4 f5 C fI fM : Addr} {fd fd1 fd2 fd3 fd4 fd5 fdI : FuncData}
end
end K45

/-! filled, sounding. -/
namespace K45
open PySem PySem.Spec PyProof.Rows L2
section
variable {P : Program} {w : World} {K : PySem.W.Frag} {mg : Str → Option Value} {base : Heap} {f f1 f2 f3 f4 f5 C fI fM : Addr} {fd fd1 fd2 fd3 fd4 fd5 fdI : FuncData}
theorem voL_len (r : List Int) (ns : List Num) : (voL r ns).length = (placesL r).length := by
  unfold voL
  rw [List.length_map]
end
end K45

/-! whole rows. -/
namespace K45
open PySem PySem.Spec PyProof.Rows L2
section
variable {P : Program} {w : World} {K : PySem.W.Frag} {mg : Str → Option Value} {base : Heap} {f f1 f2 f3 f4 f5 C fI fM : Addr} {fd fd1 fd2 fd3 fd4 fd5 fdI : FuncData}
def spWhole (K : PySem.W.Frag) (b : V) : Sp := fun vs H Q _ => ∃ (v u : V) (r xs : List Int), vs = [v, u] ∧ TupI K H v r ∧ TupI K H u xs ∧ r ∈ RR ∧ xs.length = (placesL r).length ∧ ∀ H', Same H H' → Q b H'
theorem scIsWhole : FnScope ["rings", "thing", "size"] ["rings", "thing"] (defScope sIsWhole) := ⟨rfl, rfl, rfl, by decide +kernel, rfl, by decide +kernel, by decide +kernel⟩
theorem ok_isWhole (F : FnP K "is_whole" sIsWhole f fd) (B : Bl mg) (F1 : FnP K "size_of" sSizeOf f1 fd1) (g1 : mg "size_of" = some (.ref f1)) (G1 : FnOk P w K mg base CX0 5 f1 fd1 ["rings"] (spSzOf K)) (F2 : FnP K "is_integers" sIsInts f2 fd2) (g2 : mg "is_integers" = some (.ref f2)) (G2 : FnOk P w K mg base CX0 2 f2 fd2 ["thing"] (spIsInts K)) : FnOk P w K mg base CX0 6 f fd ["rings", "thing"] (spWhole K (.bl true)) := by
  have b1 : Binds K fd1 ["rings"] [] := F1.bindsN fun _ _ _ _ _ _ us hl => match us, hl with | [_], _ => rfl
  have b2 : Binds K fd2 ["thing"] [] := F2.bindsN fun _ _ _ _ _ _ us hl => match us, hl with | [_], _ => rfl
  refine F.ok scIsWhole (fun vs H Q E h => ?_) (fun cdv A outer s H vs Q E hr h => ?_)
  · obtain ⟨v, u, r, xs, rfl, _⟩ := h
    rfl
  · obtain ⟨v, u, r, xs, rfl, ha, hu, h14, hl, k⟩ := h
    refine ⟨_, PSs.nox (pss_cons (ps_set (i := 2) scIsWhole.nd rfl (Or.inl rfl) (pe_call G1 hr rfl g1 F1.kp b1 .nil pass0 (pa_cons (pv 0) pa_nil)))
      (pss_one (ps_ret (pe_and (pe_call G2 (hr.mono (by decide)) rfl g2 F2.kp b2 .nil pass0 (pa_cons (pv 1) pa_nil)) (pe_one (pe_cmpR op_eq (pe_callB call_len_seq (by rfl) (B "len" (by decide +kernel)) PySem.boot_len (pa_cons (pv 1) pa_nil)) (pv 2) (nomark _))))))), ?_⟩
    have h16 := rr_pl0 r h14
    obtain ⟨t, rfl, ht⟩ := hu
    refine ⟨_, rfl, _, r, rfl, ha, h14, fun H1 s1 => ?_⟩
    refine ⟨_, rfl, _, xs, rfl, ⟨t, rfl, s1.tup ht⟩, by omega, fun H2 s2 => ?_⟩
    have t2 := s1.trans s2
    refine ⟨_, rfl, _, rfl, t, _, rfl, .inr (t2.tup ht), _, rfl, rfl, ?_⟩
    have e : decide (V.int (((xs.map V.int).length : Nat) : Int) = V.int (sizeL r)) = true := decide_eq_true (by rw [List.length_map, hl, rr_szl r h14])
    show Q (.bl (decide (V.int (((xs.map V.int).length : Nat) : Int) = V.int (sizeL r)))) H2
    rw [e]
    exact k H2 t2
theorem scChkWhole : FnScope ["rings", "whole"] ["rings", "whole"] (defScope sChkWhole) := ⟨rfl, rfl, rfl, by decide +kernel, rfl, by decide +kernel, by decide +kernel⟩
theorem ok_chkWhole (F : FnP K "check_whole" sChkWhole f fd) (F1 : FnP K "is_whole" sIsWhole f1 fd1) (g1 : mg "is_whole" = some (.ref f1)) (G1 : FnOk P w K mg base CX0 6 f1 fd1 ["rings", "thing"] (spWhole K (.bl true))) : FnOk P w K mg base CX0 7 f fd ["rings", "whole"] (spWhole K .non) := by
  have b1 : Binds K fd1 ["rings", "thing"] [] := F1.bindsN fun _ _ _ _ _ _ us hl => match us, hl with | [_, _], _ => rfl
  refine F.ok scChkWhole (fun vs H Q E h => ?_) (fun cdv A outer s H vs Q E hr h => ?_)
  · obtain ⟨v, u, r, xs, rfl, _⟩ := h
    rfl
  · obtain ⟨v, u, r, xs, rfl, ha, hu, h14, hl, k⟩ := h
    refine ⟨_, PSs.nox (pss_one (ps_if (pt_not (pt_val (pe_call G1 hr rfl g1 F1.kp b1 .nil pass0 (pa_cons (pv 0) (pa_cons (pv 1) pa_nil))))) (pss_one ps_never) pss_nil)), ?_⟩
    exact ⟨_, rfl, _, rfl, _, _, r, xs, rfl, ha, hu, h14, hl, fun H1 s1 => ⟨_, rfl, iteF (k H1 s1)⟩⟩
end
end K45

/-! tuple * 0, tuple * 1. -/
namespace K45
open PySem PySem.Spec PyProof.Rows L2
theorem tuple_mul0 (l : Addr) (items : Array Value) (n : Nat) (dd : Option Addr) (sl : Array (Option Value)) (u : Tok) (hne : items.isEmpty = false) :
    Meets (Builtin.«tuple.__mul__» ⟨[.ref l, .int 0 u], []⟩) (fun _ R s => s.heap.get? l = some { cls := .type "tuple", dict := dd, data := .seq items n, slots := sl } ∧
      R (.ok (.ret (Value.ref s.heap.objs.size))) { s with heap := s.heap.push { cls := Value.type "tuple", data := Data.seq #[] }, toks := s.toks }) :=
  .of_wp fun prog w A R s h => by
    obtain ⟨hp, g, d, tk, os⟩ := s
    obtain ⟨hl, h⟩ := h
    have f1 := AutoSeq1.idx_int
    have c1 : (items.isEmpty || (0 : Int) == 1) = false := by rw [hne]; rfl
    wp_walk using wpAny_loadPart' hl
    exact ⟨_, rfl, h⟩
theorem tuple_mul1 (l : Addr) (items : Array Value) (n : Nat) (dd : Option Addr) (sl : Array (Option Value)) (u : Tok) :
    Meets (Builtin.«tuple.__mul__» ⟨[.ref l, .int 1 u], []⟩) (fun _ R s => s.heap.get? l = some { cls := .type "tuple", dict := dd, data := .seq items n, slots := sl } ∧ R (.ok (.ret (Value.ref l))) s) :=
  .of_wp fun prog w A R s h => by
    obtain ⟨hp, g, d, tk, os⟩ := s
    obtain ⟨hl, h⟩ := h
    have f1 := AutoSeq1.idx_int
    wp_walk using wpAny_loadPart' hl
    exact ⟨_, rfl, h⟩
def rRepT1 (K : PySem.W.Frag) : R2 := fun x y H Q => ∃ l xs, x = .ref l ∧ y = .int 1 ∧ SqT K H l xs ∧ Q (.ref l) H
section
variable {X : Cx}
theorem op_repT1 : OpR X (binaryOp .Mult) (rRepT1 X.K) := by
  intro pins s σ H x y v u Q I rx ry h
  obtain ⟨l, xs, rfl, rfl, hT, q⟩ := h
  cases rx
  obtain ⟨t, rfl⟩ := ry
  obtain ⟨its, r, ⟨⟨cls, dd, data, sl⟩, ho, hc, n, hd⟩, hs⟩ := I.tuple hT
  simp only at hc hd
  subst hc hd
  refine wpAny_binaryOp_repeat_ref (T := "tuple") (U := "int") (by decide) ⟨_, ho, rfl⟩ (fun s' => typeIs_int s' 1 t) noFill_tuple_mul F.fills_int_mul F.slot_int_rmul repeat_tuple F.slot_int_index.lookup
    (call_meets F.slot_int_rmul (typeIs_int s 1 t) F.entry_int_rmul (F.args_int_rmul_2 _ _) (int_rmul_tuple 1 t l its.toArray n dd sl)
      ⟨ho, rfl, ⟨_, ho, rfl⟩, call_meets F.slot_tuple_mul ⟨_, ho, rfl⟩ F.entry_tuple_mul (F.args_tuple_mul_2 _ _) (tuple_mul1 l its.toArray n dd sl t) ⟨ho, ?_⟩⟩)
  exact ⟨.ref l, H, I, rfl, q⟩
def rRepT0 (K : PySem.W.Frag) : R2 := fun x y H Q => ∃ l xs, x = .ref l ∧ y = .int 0 ∧ SqT K H l xs ∧ xs ≠ [] ∧ ∀ p, H p = none → Q (.ref p) (upd H p (.tup []))
theorem op_repT0 : OpR X (binaryOp .Mult) (rRepT0 X.K) := by
  intro pins s σ H x y v u Q I rx ry h
  obtain ⟨l, xs, rfl, rfl, hT, hxs, q⟩ := h
  cases rx
  obtain ⟨t, rfl⟩ := ry
  obtain ⟨its, r, ⟨⟨cls, dd, data, sl⟩, ho, hc, n, hd⟩, hs⟩ := I.tuple hT
  simp only at hc hd
  subst hc hd
  have hle : its.length = xs.length := r.length.symm
  have hi : its.toArray.isEmpty = false := by
    cases its with
    | nil => exact absurd (List.eq_nil_of_length_eq_zero hle.symm) hxs
    | cons a b => rfl
  refine wpAny_binaryOp_repeat_ref (T := "tuple") (U := "int") (by decide) ⟨_, ho, rfl⟩ (fun s' => typeIs_int s' 0 t) noFill_tuple_mul F.fills_int_mul F.slot_int_rmul repeat_tuple F.slot_int_index.lookup
    (call_meets F.slot_int_rmul (typeIs_int s 0 t) F.entry_int_rmul (F.args_int_rmul_2 _ _) (int_rmul_tuple 0 t l its.toArray n dd sl)
      ⟨ho, rfl, ⟨_, ho, rfl⟩, call_meets F.slot_tuple_mul ⟨_, ho, rfl⟩ F.entry_tuple_mul (F.args_tuple_mul_2 _ _) (tuple_mul0 l its.toArray n dd sl t hi) ⟨ho, ?_⟩⟩)
  refine ⟨.ref s.heap.objs.size, _, I.laid (t' := s.toks) (o := .tup []) (fun b ob q => Heap.get?_push_of_some _ q) (Nat.le_refl _) ?_, rfl, q _ (I.hok.fresh (Nat.le_refl _))⟩
  exact ⟨Nat.zero_le _, [], .nil, IsTup.new _ _⟩
end
/-- (0,) * k, k from 0 on -/
theorem rep_any {K : PySem.W.Frag} {H : Hp} {p0 : Addr} {m : Nat} {Q : VK} (h0 : SqT K H p0 [V.int 0]) (h2 : m ≤ 1000) (key : ∀ q H', Same H H' → SqT K H' q (List.replicate m (V.int 0)) → Q (.ref q) H') :
    rRepT0 K (.ref p0) (.int (m : Int)) H Q ∨ rRepT1 K (.ref p0) (.int (m : Int)) H Q ∨ rRepT K (.ref p0) (.int (m : Int)) H Q := by
  match m, h2, key with
  | 0, _, key => exact .inl ⟨p0, _, rfl, rfl, h0, by simp, fun p hp => key p _ (same_upd hp) (SqT.of upd_same)⟩
  | 1, _, key => exact .inr (.inl ⟨p0, _, rfl, rfl, h0, key p0 H (Same.refl H) h0⟩)
  | n + 2, h2, key => exact .inr (.inr ⟨p0, _, _, rfl, rfl, h0, by simp, by omega, by omega, by decide, fun p hp => key p _ (same_upd hp) (SqT.of (by rw [upd_same, Int.toNat_natCast, rep_flat]))⟩)
end K45

/-! row_of. -/
namespace K45
open PySem PySem.Spec PyProof.Rows L2
theorem g_noT {a e po d pl} : (flds a e po d pl).lookup ("tops_of" : Str) = none := by
  unfold flds
  rw [lk (by decide +kernel), lk (by decide +kernel), lk (by decide +kernel), lk (by decide +kernel), lk (by decide +kernel)]
  rfl
section
variable {P : Program} {w : World} {K : PySem.W.Frag} {mg : Str → Option Value} {base : Heap} {f f1 f2 f3 f4 f5 C fI fM fT : Addr} {fd fd1 fd2 fd3 fd4 fd5 fdI fdT : FuncData}
def spTopsOf (K : PySem.W.Frag) (C : Addr) : Sp := fun vs H Q _ => ∃ (p : Addr) (x : Int) (r : List Int), vs = [.ref p, .int x] ∧ FloorAt K C H p r ∧ r ∈ RR ∧ ∀ t H', Same H H' → SqT K H' t ((whN r x).1.map V.int) → Q (.ref t) H'
theorem scTopsOf : FnScope ["self", "whole"] ["self", "whole"] (defScope sFTops) := ⟨rfl, rfl, rfl, by decide +kernel, rfl, by decide +kernel, by decide +kernel⟩
theorem ok_topsOf (F : FunD K "tops_of" "Floor.tops_of" (defArgs sFTops) (defBody sFTops) (defScope sFTops) [] [] f fd) (T : FlT K mg C fI fM) (aG : NoAttr K C "degree") : FnOk P w K mg base CX0 1 f fd ["self", "whole"] (spTopsOf K C) := by
  refine F.ok scTopsOf (fun vs H Q E h => ?_) (fun cdv A outer s H vs Q E hr h => ?_)
  · obtain ⟨p, x, r, rfl, _⟩ := h
    rfl
  · obtain ⟨p, x, r, rfl, hF, h14, k⟩ := h
    refine ⟨_, PSs.nox (pss_one (ps_ret (pe_op op_catA (pe_tup (pa_cons (pv 1) pa_nil)) (pe_op (op_repT0.or (op_repT1.or op_repT)) (pe_tup (pa_cons pe_int pa_nil)) (pe_op op_sub (pe_fld (pv 0) rfl) pe_int))))), ?_⟩
    obtain ⟨dx, ar, po, pl, h1, h2, h3, h4⟩ := id hF
    have ep := er_poly _ (er_in r h14)
    have eb := er_bd _ (er_in r h14)
    refine ⟨_, rfl, by show 1 ≤ sizeLine; decide, fun a ha => ?_⟩
    have sa : Same H (upd H a (.tup [.int x])) := same_upd ha
    refine ⟨by show 1 ≤ sizeLine; decide, fun z hz => ?_⟩
    have sz := same_new (o := .tup [.int 0]) sa hz
    refine ⟨_, rfl, p, C, dx, _, _, rfl, sz _ _ h1, T.cl, aG, g_degree, _, _, rfl, rfl, ?_⟩
    have em : ((polyL (ordL r)).length : Int) - 1 - 1 = (((polyL (ordL r)).length - 2 : Nat) : Int) := by omega
    show rRepT0 K (.ref z) (.int (((polyL (ordL r)).length : Int) - 1 - 1)) _ _ ∨ rRepT1 K (.ref z) (.int (((polyL (ordL r)).length : Int) - 1 - 1)) _ _ ∨ rRepT K (.ref z) (.int (((polyL (ordL r)).length : Int) - 1 - 1)) _ _
    rw [em]
    refine rep_any (SqT.of upd_same) (by omega) fun q H' s1 hq => ?_
    have hA : SqT K H' a [V.int x] := s1.tup ((same_upd hz).tup (SqT.of upd_same))
    have s2 := sz.trans s1
    refine ⟨a, q, _, _, rfl, rfl, hA, hq, sl_1000 (by rw [List.length_replicate]; show 1 + _ ≤ _; omega), fun z => by simp at z, fun _ hz => ?_, fun _ _ p2 hp2 => ?_⟩
    · refine k a H' s2 ?_
      have e : (polyL (ordL r)).length - 2 = 0 := by
        have := congrArg List.length hz
        rw [List.length_replicate] at this
        exact this
      unfold whN
      rw [e]
      exact hA
    · refine k p2 _ (s2.trans (same_upd hp2)) (SqT.of ?_)
      rw [upd_same]
      unfold whN
      simp
def spRO (K : PySem.W.Frag) : Sp := fun vs H Q _ => ∃ (v u : V) (r xs : List Int), vs = [v, u] ∧ TupI K H v r ∧ TupI K H u xs ∧ r ∈ RR ∧ xs.length = (placesL r).length ∧ ∀ v' H', Same H H' → RowAt K H' v' (rofL r xs) → Q v' H'
abbrev roN : List Str := ["rings", "whole", "floor", "item"]
theorem scRO : FnScope roN ["rings", "whole"] (defScope sRowOf) := ⟨rfl, rfl, rfl, by decide +kernel, rfl, by decide +kernel, by decide +kernel⟩
theorem ok_rowOf (F : FnP K "row_of" sRowOf f fd) (B : Bl mg) (T : FlT K mg C fI fM) (MT : Meth K C "tops_of" fT) (FI : FunD K "__init__" "Floor.__init__" (defArgs sFInit) (defBody sFInit) (defScope sFInit) [] [] fI fdI) (GI : FnOk P w K mg base CX0 3 fI fdI ["self", "rings"] (spFInit K C))
    (FT : FunD K "tops_of" "Floor.tops_of" (defArgs sFTops) (defBody sFTops) (defScope sFTops) [] [] fT fdT) (GT : FnOk P w K mg base CX0 1 fT fdT ["self", "whole"] (spTopsOf K C))
    (F1 : FnP K "check_whole" sChkWhole f1 fd1) (g1 : mg "check_whole" = some (.ref f1)) (G1 : FnOk P w K mg base CX0 7 f1 fd1 ["rings", "whole"] (spWhole K .non)) : FnOk P w K mg base CX0 8 f fd ["rings", "whole"] (spRO K) := by
  have bI : Binds K fdI ["self", "rings"] [] := FI.bindsN fun _ _ _ _ _ _ us hl => match us, hl with | [_, _], _ => rfl
  have bT : Binds K fdT ["self", "whole"] [] := FT.bindsN fun _ _ _ _ _ _ us hl => match us, hl with | [_, _], _ => rfl
  have b1 : Binds K fd1 ["rings", "whole"] [] := F1.bindsN fun _ _ _ _ _ _ us hl => match us, hl with | [_, _], _ => rfl
  refine F.ok scRO (fun vs H Q E h => ?_) (fun cdv A outer s H vs Q E hr h => ?_)
  · obtain ⟨v, u, r, xs, rfl, _⟩ := h
    rfl
  · obtain ⟨v, u, r, xs, rfl, ⟨a, rfl, ha⟩, hu, h14, hl, k⟩ := h
    refine ⟨_, PSs.nox (pss_cons (ps_expr (pe_call G1 hr rfl g1 F1.kp b1 .nil pass0 (pa_cons (pv 0) (pa_cons (pv 1) pa_nil))))
      (pss_cons (ps_set (i := 2) scRO.nd rfl (Or.inr rfl) (pe_make T.mkk GI (hr.mono (by decide)) rfl T.mgC bI .nil pass0 (pa_cons (pv 0) pa_nil)))
      (pss_one (ps_ret (pe_callTy call_tuple_of (by rfl) (B "tuple" (by decide +kernel)) (by decide +kernel) (pa_cons
        (pe_lc (own := [("item", 3)]) (g := gName 3) (tt := tYes) (te := tTup (tCons (tMeth C "tops_of" (spTopsOf K C) [] E0 (tVar 2) (tCons (tVar 3) tNil)) (tCons (tC (.int 1)) tNil))) rfl scRO.nd (pi_tup (pv 1)) (blkOk_by (own := [("item", 3)]) (N := roN) (sc := defScope sRowOf) (by decide +kernel))
          (fun _ _ _ _ _ => pg_name (i := 3) scRO.nd rfl (Or.inl rfl)) (fun _ _ _ _ _ => pts_nil) (fun _ _ _ _ _ => pe_tup (pa_cons (pe_meth (pv 2) T.cl MT GT (hr.mono (by decide)) bT .nil pass0 (pa_cons (pv 3) pa_nil)) (pa_cons pe_int pa_nil)))) pa_nil)))))), ?_⟩
    obtain ⟨q, rfl, hq⟩ := hu
    have h16 := rr_pl0 r h14
    refine ⟨_, rfl, _, rfl, _, _, r, xs, rfl, ⟨a, rfl, ha⟩, ⟨q, rfl, hq⟩, h14, hl, fun H1 s1 => ?_⟩
    refine ⟨_, rfl, fun p dx np ndx nex => ?_⟩
    have tn : Same H1 (upd (upd H1 dx (.own p)) p (.ins C dx [])) := same_new (same_upd ndx) (by rw [upd_ne (Ne.symm nex)]; exact np)
    refine ⟨p, dx, _, r, rfl, upd_same, ⟨a, rfl, tn.tup (s1.tup ha)⟩, h14, fun H3 hF kp => ⟨rfl, ?_⟩⟩
    have s3 : Same H1 H3 := Same.made np ndx kp
    have t3 := s1.trans s3
    obtain ⟨dx', ar, po, pl, h1, h2, h3, h4⟩ := id hF
    refine ⟨_, rfl, q, rfl, ⟨_, t3.tup hq⟩, fun D hD => ?_⟩
    have tl : (rofL r xs).length = xs.length := by
      unfold rofL
      rw [List.length_map]
    refine lc_tup (K := K) (a := q) (xs := xs.map V.int) (fun i H4 => Same H3 H4 ∧ ∃ vs, H4 D = some (.lst vs) ∧ Nums K H4 vs ((rofL r xs).take i)) ⟨same_upd hD, [], upd_same, by rw [List.take_zero]; exact nums_nil⟩ (fun i H4 _ ⟨s4, _⟩ => s4.tup (t3.tup hq)) ?_ ?_
    · rintro i y H4 hi ⟨s4, vs, h4', tn4⟩
      obtain ⟨x, rfl, hx⟩ := getI hi
      have il := ltL hx
      refine ⟨rfl, _, rfl, p, dx', _, rfl, s4 _ _ h1, g_noT, _, rfl, p, x, r, rfl, s4.floor hF, h14, fun t H5 s5 ht => ?_⟩
      refine ⟨by show 2 ≤ sizeLine; decide, fun p2 hp2 => ?_⟩
      have s6 : Same H5 (upd H5 p2 (.tup [.ref t, .int 1])) := same_upd hp2
      generalize hH6 : upd H5 p2 (.tup [.ref t, .int 1]) = H6 at s6
      have hv' : NumAt K H6 (.ref p2) (whN r x) := ⟨p2, t, rfl, SqT.of (by rw [← hH6, upd_same]; rfl), s6.tup ht⟩
      have ul := tn4.1
      rw [List.length_take, tl] at ul
      have ev : (rofL r xs)[i]? = some (whN r x) := by
        unfold rofL
        rw [List.getElem?_map, hx]
        rfl
      have s56 := s5.trans s6
      refine ⟨vs, s56 _ _ h4', sl_lt (by omega), same_at (s4.trans s56) hD, vs ++ [.ref p2], upd_same, ?_⟩
      rw [takeS ev]
      have tn6 := s56.nums tn4
      have num_up : ∀ {v : V} {n : Num}, NumAt K H6 v n → NumAt K (upd H6 D (.lst (vs ++ [.ref p2]))) v n := fun ⟨p', t', e', q1, q2⟩ => ⟨p', t', e', sqt_at q1 (s56 _ _ h4'), sqt_at q2 (s56 _ _ h4')⟩
      exact Nums.snoc ⟨tn6.1, fun i v n e1 e2 => num_up (tn6.2 i v n e1 e2)⟩ (num_up hv')
    · rintro H4 ⟨s4, vs, h4', tn4⟩
      rw [List.length_map, ← tl, List.take_length] at tn4
      refine ⟨D, vs, rfl, .inl ⟨SqL.of h4', fun p2 hp2 => ?_⟩⟩
      have sp : Same H4 (upd H4 p2 (.tup vs)) := same_upd hp2
      exact k _ _ ((t3.trans s4).trans sp) ⟨p2, vs, rfl, SqT.of upd_same, sp.nums tn4⟩
end
end K45

/-! any(..) of a tuple; single, differences. -/
namespace K45
open PySem PySem.Spec PyProof.Rows L2
section
variable {X : Cx}
def rAnyT (K : PySem.W.Frag) : List V → Hp → VK → Prop := fun vs H Q => ∃ (a : Addr) (ns : List Int), vs = [V.ref a] ∧ SqT K H a (ns.map V.int) ∧ Q (.bl (someN ns)) H
theorem cr_anyT (hc : X.calm = true) : CallR X (.builtin "any") (rAnyT X.K) := by
  intro pins s σ H vs us Q I r h
  obtain ⟨a, ns, rfl, hs, q⟩ := h
  obtain ⟨its, rv, p, _⟩ := I.tuple hs
  rw [Vals.ref1 r]
  have hlt : a < s.heap.objs.size := by
    obtain ⟨_, e, _⟩ := id p
    exact Heap.lt_size e
  refine call_any_walk (wpAny_pyIter_tuple p ?_)
  refine ⟨s.heap.objs.size, _, _, _, _, _, _, rfl, Walks.tuple (A := X.A.in1) (I.ok.hd hc) s.heap.objs.size a (Nat.ne_of_lt hlt) its.toArray, ⟨⟨_, Heap.get?_push_size _ rfl, rfl, rfl⟩, p.push _⟩, truth_ints rv, fun h' tk hk => ?_⟩
  refine ⟨.bl _, H, I.kept fun b o eo => hk b o (fun hm => ?_) (Heap.get?_push_of_some _ eo), ?_, q⟩
  · have e1 := List.mem_singleton.mp hm
    rw [e1] at eo
    exact Nat.lt_irrefl _ (Heap.lt_size eo)
  · show Value.bool _ = Value.bool _
    have hl := rv.length
    rw [List.length_map] at hl
    rw [← someN_range, List.size_toArray, hl]
end
/-- the row that is 1 at the origin -/
def oneP (x : List Int) : Int := if someN x = true then 0 else 1
def singL (r : List Int) : List Num := (placesL r).map fun x => whN r (oneP x)
def dfrL (r : List Int) (ns : List Num) : List Num := mixL r ns (trL r (mirL r ns))
structure DifOk (r : List Int) (ns : List Num) : Prop where
  g : RowG r ns
  gm : RowG r (mirL r ns)
  gt : RowG r (trL r (mirL r ns))
  mo : MixOk r ns (trL r (mirL r ns))
section
variable {P : Program} {w : World} {K : PySem.W.Frag} {mg : Str → Option Value} {base : Heap} {f f1 f2 f3 f4 f5 C fI fM fT : Addr} {fd fd1 fd2 fd3 fd4 fd5 fdI fdT : FuncData}
def spSR (K : PySem.W.Frag) (C : Addr) : Sp := fun vs H Q _ => ∃ (p : Addr) (r : List Int), vs = [.ref p] ∧ FloorAt K C H p r ∧ r ∈ RR ∧ ∀ v' H', Same H H' → RowAt K H' v' (singL r) → Q v' H'
abbrev sgN : List Str := ["floor", "place"]
def spSing (K : PySem.W.Frag) : Sp := fun vs H Q _ => ∃ (v : V) (r : List Int), vs = [v] ∧ TupI K H v r ∧ r ∈ RR ∧ ∀ v' H', Same H H' → RowAt K H' v' (singL r) → Q v' H'
def spDiffs (K : PySem.W.Frag) : Sp := fun vs H Q _ => ∃ (v u : V) (r : List Int) (ns : List Num), vs = [v, u] ∧ TupI K H v r ∧ RowAt K H u ns ∧ r ∈ RR ∧ DifOk r ns ∧ ∀ v' H', Same H H' → RowAt K H' v' (dfrL r ns) → Q v' H'
end
end K45

/-! Mixing as a product: exchanged, grouped otherwise, under the voices. -/
namespace K45
open PySem PySem.Spec PyProof.Rows L2
theorem mw_sums {r : List Int} (u v : Nat → Int) (j : Nat) : mw r u v j = sm (dg r) (fun i => sm (dg r) (fun k => u i * v k * Tz (dg r) (polyL (ordL r)) j (i + k))) := by
  unfold mw tn
  refine sm_congr fun i _ => ?_
  rw [← sm_mul]
  exact sm_congr fun k _ => (Int.mul_assoc _ _ _).symm
theorem mw_comm {r : List Int} (u v : Nat → Int) (j : Nat) : mw r u v j = mw r v u j := by
  rw [mw_sums, mw_sums, sm_swap]
  exact sm_congr fun i _ => sm_congr fun k _ => by rw [Nat.add_comm, Int.mul_comm (u k)]
theorem mw_tn1 {r : List Int} (h : r ∈ RR) (p : Nat) (u v : Nat → Int) {j : Nat} (hj : j < dg r) : mw r (tn (dg r) (polyL (ordL r)) p u) v j = tn (dg r) (polyL (ordL r)) p (mw r u v) j := by
  have e := mw_tn h p 0 u v j
  have a : mw r (tn (dg r) (polyL (ordL r)) p u) (tn (dg r) (polyL (ordL r)) 0 v) j = mw r (tn (dg r) (polyL (ordL r)) p u) v j := mw_congr (fun _ _ => rfl) (fun k hk => tn_zero hk) j
  rw [a] at e
  rw [e]
  exact tn_congr fun k hk => tn_zero hk
theorem mw_mulL {r : List Int} (c : Int) (u v : Nat → Int) (j : Nat) : mw r (fun k => c * u k) v j = c * mw r u v j := by
  have e := mw_mul (r := r) c 1 u v j
  rw [Int.mul_one] at e
  rw [← e]
  exact mw_congr (fun _ _ => rfl) (fun k _ => (Int.one_mul _).symm) j
theorem mw_assoc {r : List Int} (h : r ∈ RR) (u v w : Nat → Int) {j : Nat} (hj : j < dg r) : mw r (mw r u v) w j = mw r u (mw r v w) j := by
  have a : mw r (mw r u v) w j = sm (dg r) (fun i => mw r (fun k => u i * tn (dg r) (polyL (ordL r)) i v k) w j) := mw_add_sm (dg r) (fun i k => u i * tn (dg r) (polyL (ordL r)) i v k) w j
  rw [a]
  refine sm_congr fun i _ => ?_
  rw [mw_mulL, mw_tn1 h _ _ _ hj]
theorem mw_zeroL {r : List Int} (v : Nat → Int) (j : Nat) : mw r (fun _ => 0) v j = 0 := by
  unfold mw
  rw [sm_congr (g := fun _ => 0) (fun i _ => Int.zero_mul _), sm_zero]
theorem mw_zeroR {r : List Int} (u : Nat → Int) (j : Nat) : mw r u (fun _ => 0) j = 0 := by rw [mw_comm, mw_zeroL]
theorem pI_comm (r : List Int) (x y : Nat) : pI r x y = pI r y x := by
  unfold pI
  rw [sumP_comm]
theorem Wm_comm {r : List Int} (u v : Nat → Nat → Int) (z j : Nat) : Wm r u v z j = Wm r v u z j := by
  unfold Wm
  rw [sm_swap]
  exact sm_congr fun y _ => sm_congr fun x _ => by rw [pI_comm, mw_comm]
theorem mix_comm {r : List Int} (h : r ∈ RR) {a b : List Num} (A : RowC r a) (B : RowC r b) : mixL r a b = mixL r b a := by
  refine rows_eq (rowC_mix h A B) (rowC_mix h B A) (mul1 (levB_one A) (levB_one B)) (w := Wm r (wv (levT a)) (wv (levT b))) (fun i n hn => ?_) (fun i n hn => ?_)
  · exact Rp_mix h A B (fun i n e => Rp_lev A e) (fun i n e => Rp_lev B e) hn
  · have q := Rp_mix h B A (fun i n e => Rp_lev B e) (fun i n e => Rp_lev A e) hn
    rw [Int.mul_comm] at q
    exact Rp_congr (fun k _ => Wm_comm _ _ _ _) q
theorem pI_assoc {r : List Int} (h : r ∈ RR) {x y z : Nat} (hx : x < (placesL r).length) (hy : y < (placesL r).length) (hz : z < (placesL r).length) : pI r (pI r x y) z = pI r x (pI r y z) := by
  show seatN r (sumP r (pl r (pI r x y)) (pl r z)) = seatN r (sumP r (pl r x) (pl r (pI r y z)))
  rw [pl_pI h hx hy, pl_pI h hy hz, sumP_assoc]
/-- one of three sums -/
theorem Wm_three {r : List Int} (h : r ∈ RR) (u v w : Nat → Nat → Int) {z j : Nat} (hj : j < dg r) :
    Wm r (Wm r u v) w z j = sm (placesL r).length (fun a => sm (placesL r).length (fun b => sm (placesL r).length (fun y => if pI r (pI r a b) y = z then mw r (mw r (u a) (v b)) (w y) j else 0))) := by
  have e1 : ∀ x y, (if pI r x y = z then mw r (Wm r u v x) (w y) j else 0) = sm (placesL r).length (fun a => sm (placesL r).length (fun b => if pI r a b = x then (if pI r x y = z then mw r (mw r (u a) (v b)) (w y) j else 0) else 0)) := fun x y => by
    by_cases c : pI r x y = z
    · rw [if_pos c]
      have q : mw r (Wm r u v x) (w y) j = sm (placesL r).length (fun a => mw r (fun k => sm (placesL r).length (fun b => if pI r a b = x then mw r (u a) (v b) k else 0)) (w y) j) := mw_add_sm (placesL r).length (fun a k => sm (placesL r).length (fun b => if pI r a b = x then mw r (u a) (v b) k else 0)) (w y) j
      rw [q]
      refine sm_congr fun a _ => ?_
      have q2 : mw r (fun k => sm (placesL r).length (fun b => if pI r a b = x then mw r (u a) (v b) k else 0)) (w y) j = sm (placesL r).length (fun b => mw r (fun k => if pI r a b = x then mw r (u a) (v b) k else 0) (w y) j) := mw_add_sm (placesL r).length (fun b k => if pI r a b = x then mw r (u a) (v b) k else 0) (w y) j
      rw [q2]
      refine sm_congr fun b _ => ?_
      by_cases d : pI r a b = x
      · rw [if_pos d]
        refine Eq.trans (mw_congr (fun k _ => if_pos d) (fun _ _ => rfl) j) ?_
        rw [if_pos c]
      · rw [if_neg d]
        exact Eq.trans (mw_congr (u' := fun _ => 0) (fun k _ => if_neg d) (fun _ _ => rfl) j) (mw_zeroL _ _)
    · rw [if_neg c]
      rw [sm_congr (g := fun _ => 0) (fun a _ => by rw [sm_congr (g := fun _ => 0) (fun b _ => by rw [if_neg c]; exact ite_self _), sm_zero]), sm_zero]
  have e2 : Wm r (Wm r u v) w z j = sm (placesL r).length (fun x => sm (placesL r).length (fun y => sm (placesL r).length (fun a => sm (placesL r).length (fun b => if pI r a b = x then (if pI r x y = z then mw r (mw r (u a) (v b)) (w y) j else 0) else 0)))) := sm_congr fun x _ => sm_congr fun y _ => e1 x y
  rw [e2]
  -- bring x inside
  have e3 : ∀ x, sm (placesL r).length (fun y => sm (placesL r).length (fun a => sm (placesL r).length (fun b => if pI r a b = x then (if pI r x y = z then mw r (mw r (u a) (v b)) (w y) j else 0) else 0))) = sm (placesL r).length (fun a => sm (placesL r).length (fun b => sm (placesL r).length (fun y => if pI r a b = x then (if pI r x y = z then mw r (mw r (u a) (v b)) (w y) j else 0) else 0))) := fun x => by
    rw [sm_swap]
    exact sm_congr fun a _ => sm_swap _ _
  rw [sm_congr fun x _ => e3 x, sm_swap]
  refine sm_congr fun a ha => ?_
  rw [sm_swap]
  refine sm_congr fun b hb => ?_
  rw [sm_swap]
  refine sm_congr fun y _ => ?_
  have e4 : sm (placesL r).length (fun x => if pI r a b = x then (if pI r x y = z then mw r (mw r (u a) (v b)) (w y) j else 0) else 0) = sm (placesL r).length (fun x => if x = pI r a b then (if pI r x y = z then mw r (mw r (u a) (v b)) (w y) j else 0) else 0) := sm_congr fun x _ => by
    by_cases d : pI r a b = x
    · rw [if_pos d, if_pos d.symm]
    · rw [if_neg d, if_neg (fun q => d q.symm)]
  rw [e4, sm_delta (f := fun x => if pI r x y = z then mw r (mw r (u a) (v b)) (w y) j else 0), if_pos (pI_lt h ha hb)]
theorem Wm_assoc {r : List Int} (h : r ∈ RR) (u v w : Nat → Nat → Int) {z j : Nat} (hj : j < dg r) : Wm r (Wm r u v) w z j = Wm r u (Wm r v w) z j := by
  rw [Wm_comm u (Wm r v w), Wm_three h u v w hj, Wm_three h v w u hj]
  -- a b y  against  b y a
  rw [sm_swap]
  refine sm_congr fun b hb => ?_
  rw [sm_swap]
  refine sm_congr fun y hy => sm_congr fun a ha => ?_
  rw [pI_assoc h ha hb hy, pI_comm r a, mw_comm (mw r (v b) (w y)), mw_assoc h _ _ _ hj]
theorem mix_assoc {r : List Int} (h : r ∈ RR) {a b c : List Num} (A : RowC r a) (B : RowC r b) (C : RowC r c) : mixL r (mixL r a b) c = mixL r a (mixL r b c) := by
  have AB := rowC_mix h A B
  have BC := rowC_mix h B C
  refine rows_eq (rowC_mix h AB C) (rowC_mix h A BC) (M := levB a * levB b * levB c) (mul1 (mul1 (levB_one A) (levB_one B)) (levB_one C)) (w := Wm r (Wm r (wv (levT a)) (wv (levT b))) (wv (levT c))) (fun i n hn => ?_) (fun i n hn => ?_)
  · exact Rp_mix h AB C (fun i n e => Rp_mix h A B (fun i n e => Rp_lev A e) (fun i n e => Rp_lev B e) e) (fun i n e => Rp_lev C e) hn
  · have q := Rp_mix h A BC (fun i n e => Rp_lev A e) (fun i n e => Rp_mix h B C (fun i n e => Rp_lev B e) (fun i n e => Rp_lev C e) e) hn
    rw [← Int.mul_assoc] at q
    exact Rp_congr (fun k hk => (Wm_assoc h _ _ _ hk).symm) q
end K45

/-! Differences of rows: under the voices, of moved, mirrored, turned and mixed rows. -/
namespace K45
open PySem PySem.Spec PyProof.Rows L2
theorem tn_ite {deg : Nat} {dv : List Int} {p j : Nat} {c : Prop} [Decidable c] (f : Nat → Int) : tn deg dv p (fun k => if c then f k else 0) j = if c then tn deg dv p f j else 0 := by
  by_cases h : c
  · rw [if_pos h]
    exact tn_congr fun k _ => if_pos h
  · rw [if_neg h]
    refine Eq.trans (tn_congr (w := fun _ => 0) fun k _ => if_neg h) ?_
    unfold tn
    rw [sm_congr (g := fun _ => 0) (fun i _ => Int.zero_mul _), sm_zero]
theorem Tq_Wm {r : List Int} (h : r ∈ RR) (l : List Int) (u v : Nat → Nat → Int) {j : Nat} (hj : j < dg r) : Tq r 1 l (Wm r u v) j = mw r (Tq r 1 l u) (Tq r 1 l v) j := by
  have T := tabs_of h
  have rhs : mw r (Tq r 1 l u) (Tq r 1 l v) j = sm (placesL r).length (fun x => sm (placesL r).length (fun y => mw r (tn (dg r) (polyL (ordL r)) (pw r (ordL r) 1 (pl r x) l) (u x)) (tn (dg r) (polyL (ordL r)) (pw r (ordL r) 1 (pl r y) l) (v y)) j)) := by
    have a : mw r (Tq r 1 l u) (Tq r 1 l v) j = sm (placesL r).length (fun x => mw r (tn (dg r) (polyL (ordL r)) (pw r (ordL r) 1 (pl r x) l) (u x)) (Tq r 1 l v) j) := mw_add_sm _ _ _ _
    rw [a]
    exact sm_congr fun x _ => mw_sm_r _ _ _ _
  rw [rhs]
  have e1 : Tq r 1 l (Wm r u v) j = sm (placesL r).length (fun z => sm (placesL r).length (fun x => sm (placesL r).length (fun y => if pI r x y = z then tn (dg r) (polyL (ordL r)) (pw r (ordL r) 1 (pl r z) l) (mw r (u x) (v y)) j else 0))) := by
    refine sm_congr fun z _ => ?_
    have a : tn (dg r) (polyL (ordL r)) (pw r (ordL r) 1 (pl r z) l) (Wm r u v z) j = sm (placesL r).length (fun x => tn (dg r) (polyL (ordL r)) (pw r (ordL r) 1 (pl r z) l) (fun k => sm (placesL r).length (fun y => if pI r x y = z then mw r (u x) (v y) k else 0)) j) := tn_sm _ _ _ _ _ (fun x k => sm (placesL r).length (fun y => if pI r x y = z then mw r (u x) (v y) k else 0))
    refine Eq.trans a (sm_congr fun x _ => ?_)
    have b := tn_sm (dg r) (polyL (ordL r)) (pw r (ordL r) 1 (pl r z) l) j (placesL r).length (fun y k => if pI r x y = z then mw r (u x) (v y) k else 0)
    refine Eq.trans b (sm_congr fun y _ => tn_ite _)
  rw [e1, sm_swap]
  refine sm_congr fun x hx => ?_
  rw [sm_swap]
  refine sm_congr fun y hy => ?_
  have e2 : sm (placesL r).length (fun z => if pI r x y = z then tn (dg r) (polyL (ordL r)) (pw r (ordL r) 1 (pl r z) l) (mw r (u x) (v y)) j else 0) = sm (placesL r).length (fun z => if z = pI r x y then tn (dg r) (polyL (ordL r)) (pw r (ordL r) 1 (pl r z) l) (mw r (u x) (v y)) j else 0) := sm_congr fun z _ => by
    by_cases d : pI r x y = z
    · rw [if_pos d, if_pos d.symm]
    · rw [if_neg d, if_neg (fun q => d q.symm)]
  rw [e2, sm_delta (f := fun z => tn (dg r) (polyL (ordL r)) (pw r (ordL r) 1 (pl r z) l) (mw r (u x) (v y)) j), if_pos (pI_lt h hx hy), mw_tn h, tn_tn _ _ _ _ _ _ T.d1, pl_pI h hx hy]
  refine tn_eqv (T.per j hj) ?_
  rw [pw_sum h (at_pl hx).2 (at_pl hy).2]
  have e3 : (pairL r (ordL r) (pl r y) l % ordL r).toNat = pw r (ordL r) 1 (pl r y) l := by
    unfold pw
    rw [Int.one_mul]
  show ((pairL r (ordL r) (pl r y) l % ordL r).toNat + _) % _ = _
  rw [e3, Nat.add_comm]
theorem vo_mix {r : List Int} (h : r ∈ RR) {a b : List Num} (A : RowC r a) (B : RowC r b) {i : Nat} {n x y : Num} (hn : (voL r (mixL r a b))[i]? = some n) (hx : (voL r a)[i]? = some x) (hy : (voL r b)[i]? = some y) : n = prodL (ordL r) x y := by
  have AB := rowC_mix h A B
  have cx := (rowC_vo h A).num x (List.mem_of_getElem? hx)
  have cy := (rowC_vo h B).num y (List.mem_of_getElem? hy)
  have q1 := Rp_vo h AB (mul1 (levB_one A) (levB_one B)) (fun i n e => Rp_mix h A B (fun i n e => Rp_lev A e) (fun i n e => Rp_lev B e) e) hn
  have q2 := Rp_prod2 h cx cy (Rp_vo h A (levB_one A) (fun i n e => Rp_lev A e) hx) (Rp_vo h B (levB_one B) (fun i n e => Rp_lev B e) hy)
  exact Rp_eq (mul1 (levB_one A) (levB_one B)) ((rowC_vo h AB).num n (List.mem_of_getElem? hn)) (numC_prod h cx cy) q1 (Rp_congr (fun k hk => (Tq_Wm h _ _ _ hk).symm) q2)
/-- mirrored and turned about -/
def tmL (r : List Int) (a : List Num) : List Num := trL r (mirL r a)
section
variable {r : List Int} {a b : List Num}
theorem rowC_mir (h : r ∈ RR) (A : RowC r a) : RowC r (mirL r a) := rowC_laid A (mirP_len r) (mir_all r h)
theorem rowC_mov {s : List Int} (h : r ∈ RR) (hs : s ∈ placesL r) (A : RowC r a) : RowC r (movL r s a) := rowC_laid A (movP_len r s) (mov_all r h s hs)
theorem rowC_tm (h : r ∈ RR) (A : RowC r a) : RowC r (tmL r a) := rowC_tr h (rowC_mir h A)
theorem tr_laid {qs : List (List Int)} (hl : a.length = qs.length) (all : ∀ x ∈ placesL r, x ∈ qs) : trL r (laidL r qs a) = laidL r qs (trL r a) := by
  unfold trL laidL
  rw [List.map_map]
  refine List.map_congr_left fun x hx => ?_
  have jl := List.idxOf_lt_length_iff.mpr (all x hx)
  have e := List.getElem?_eq_getElem (show qs.idxOf x < a.length by omega)
  show exL (ordL r) (a.getD (qs.idxOf x) ([], 1)) (-1) = (a.map fun n => exL (ordL r) n (-1)).getD (qs.idxOf x) ([], 1)
  rw [List.getD_eq_getElem?_getD, List.getD_eq_getElem?_getD, List.getElem?_map, e]
  rfl
theorem tr_mir (h : r ∈ RR) (A : RowC r a) : trL r (mirL r a) = mirL r (trL r a) := tr_laid (by rw [mirP_len, A.len]) (mir_all r h)
theorem tr_mov {s : List Int} (h : r ∈ RR) (hs : s ∈ placesL r) (A : RowC r a) : trL r (movL r s a) = movL r s (trL r a) := tr_laid (by rw [movP_len, A.len]) (mov_all r h s hs)
theorem tm_tm (h : r ∈ RR) (A : RowC r a) : tmL r (tmL r a) = a := by
  unfold tmL
  rw [tr_mir h A, mir_mir h (by rw [(rowC_tr h A).len]), tr_tr h A]
theorem tm_mix (h : r ∈ RR) (A : RowC r a) (B : RowC r b) : tmL r (mixL r a b) = mixL r (tmL r a) (tmL r b) := by
  unfold tmL
  rw [mir_mix h A B, tr_mix h (rowC_mir h A) (rowC_mir h B)]
theorem dfr_tm (h : r ∈ RR) (A : RowC r a) : tmL r (dfrL r a) = dfrL r a := by
  show tmL r (mixL r a (tmL r a)) = mixL r a (tmL r a)
  rw [tm_mix h A (rowC_tm h A), tm_tm h A, mix_comm h (rowC_tm h A) A]
theorem dfr_of_tm (h : r ∈ RR) (A : RowC r a) : dfrL r (tmL r a) = dfrL r a := by
  show mixL r (tmL r a) (tmL r (tmL r a)) = mixL r a (tmL r a)
  rw [tm_tm h A, mix_comm h (rowC_tm h A) A]
theorem dfr_mix (h : r ∈ RR) (A : RowC r a) (B : RowC r b) : dfrL r (mixL r a b) = mixL r (dfrL r a) (dfrL r b) := by
  have ta := rowC_tm h A
  have tb := rowC_tm h B
  show mixL r (mixL r a b) (tmL r (mixL r a b)) = mixL r (mixL r a (tmL r a)) (mixL r b (tmL r b))
  rw [tm_mix h A B, mix_assoc h A B (rowC_mix h ta tb), mix_assoc h A ta (rowC_mix h B tb), ← mix_assoc h B ta tb, ← mix_assoc h ta B tb, mix_comm h B ta]
theorem mir_mov_ix : ∀ r ∈ RR, ∀ s ∈ placesL r, ∀ x ∈ placesL r, (movP r s).idxOf ((placesL r).getD ((mirP r).idxOf x) []) = (mirP r).idxOf ((placesL r).getD ((movP r (repL r s (-1))).idxOf x) []) := by decide +kernel
theorem mir_mov {s : List Int} (h : r ∈ RR) (hs : s ∈ placesL r) (A : RowC r a) : mirL r (movL r s a) = movL r (repL r s (-1)) (mirL r a) := by
  have hs' := rep_in r h s hs
  refine List.map_congr_left fun x hx => ?_
  have go : ∀ {p q : List (List Int)}, p.length = (placesL r).length → (∀ x ∈ placesL r, x ∈ p) → (laidL r q a).getD (p.idxOf x) ([], 1) = a.getD (q.idxOf ((placesL r).getD (p.idxOf x) [])) ([], 1) := fun {p q} pl all => by
    have jl := List.idxOf_lt_length_iff.mpr (all x hx)
    rw [pl] at jl
    have e := (at_pl jl).1
    rw [List.getD_eq_getElem?_getD, laid_get e]
    rfl
  show (movL r s a).getD ((mirP r).idxOf x) ([], 1) = (mirL r a).getD ((movP r (repL r s (-1))).idxOf x) ([], 1)
  have g1 : (movL r s a).getD ((mirP r).idxOf x) ([], 1) = _ := go (p := mirP r) (q := movP r s) (mirP_len r) (mir_all r h)
  have g2 : (mirL r a).getD ((movP r (repL r s (-1))).idxOf x) ([], 1) = _ := go (p := movP r (repL r s (-1))) (q := mirP r) (movP_len r _) (mov_all r h _ hs')
  rw [g1, g2, mir_mov_ix r h s hs x hx]
theorem tm_mov {s : List Int} (h : r ∈ RR) (hs : s ∈ placesL r) (A : RowC r a) : tmL r (movL r s a) = movL r (repL r s (-1)) (tmL r a) := by
  unfold tmL
  rw [mir_mov h hs A, tr_mov h (rep_in r h s hs) (rowC_mir h A)]
theorem dfr_mov {s : List Int} (h : r ∈ RR) (hs : s ∈ placesL r) (A : RowC r a) : dfrL r (movL r s a) = dfrL r a := by
  have hs' := rep_in r h s hs
  have ta := rowC_tm h A
  have tb := rowC_mov h hs' ta
  have ma := rowC_mov h hs A
  show mixL r (movL r s a) (tmL r (movL r s a)) = mixL r a (tmL r a)
  rw [tm_mov h hs A, mix_comm h ma tb, ← mov_mix h hs' ta ma, mix_comm h ta ma, ← mov_mix h hs A ta, mov_back h hs (by rw [(rowC_mix h A ta).len])]
/-- the voices of the differences are the loudnesses -/
theorem vo_dfr (h : r ∈ RR) (A : RowC r a) : voL r (dfrL r a) = (voL r a).map (loudL (ordL r)) := by
  have ta := rowC_tm h A
  have V := rowC_vo h A
  have VD := rowC_vo h (rowC_mix h A ta)
  have et : voL r (tmL r a) = trL r (voL r a) := by
    show voL r (trL r (mirL r a)) = _
    rw [vo_tr h (rowC_mir h A), vo_mir h A, mir_mir h (by rw [V.len])]
  refine List.ext_getElem? fun i => ?_
  cases hx : (voL r a)[i]? with
  | none =>
    have := List.getElem?_eq_none_iff.mp hx
    rw [List.getElem?_map, hx]
    exact List.getElem?_eq_none_iff.mpr (by
      have e : (voL r (dfrL r a)).length = (voL r a).length := by rw [V.len]; exact VD.len
      omega)
  | some x =>
    have il := ltL hx
    obtain ⟨n, hn⟩ := get_lt (show i < (voL r (dfrL r a)).length by
      have e : (voL r (dfrL r a)).length = (voL r a).length := by rw [V.len]; exact VD.len
      omega)
    have hy : (voL r (tmL r a))[i]? = some (exL (ordL r) x (-1)) := by
      rw [et]
      unfold trL
      rw [List.getElem?_map, hx]
      rfl
    rw [hn, List.getElem?_map, hx]
    exact congrArg some (vo_mix h A ta hn hx hy)
theorem dfr_sing : ∀ r ∈ RR, dfrL r (singL r) = singL r := by decide +kernel
end
end K45

/-! The law's ring polynomials, by a def that calls itself. -/
namespace K45
open PySem PySem.Spec PyProof.Rows L2
def phiL (e : Int) : List Int := if e = 1 then [-1, 1] else polyL e
def phF (e : Int) : Nat → List Int
  | 0 => [-1] ++ List.replicate (e - 1).toNat 0 ++ [1]
  | t + 1 => if e % ((t : Int) + 1) = 0 then rstep (phF e t) (phiL ((t : Int) + 1)) else phF e t
/-- which ones are told by so many calls in one another -/
def phSet : Nat → List Int
  | 0 => []
  | 1 => [1]
  | 2 => [1, 2, 3, 5, 7, 13, 11]
  | 3 => [1, 2, 3, 5, 7, 13, 11, 4, 6, 9, 10, 15]
  | 4 => [1, 2, 3, 5, 7, 13, 11, 4, 6, 9, 10, 15, 8, 12]
  | _ => [1, 2, 3, 5, 7, 13, 11, 4, 6, 9, 10, 15, 8, 12, 16]
theorem ph_down : ∀ k ∈ List.range 5, ∀ e ∈ phSet (k + 1), (1 ≤ e ∧ e ≤ 16) ∧ ∀ t ∈ List.range (e - 1).toNat, e % ((t : Int) + 1) = 0 → (t : Int) + 1 ∈ phSet k := by decide +kernel
theorem ph_bd : ∀ e ∈ phSet 5, ∀ t ∈ List.range (e - 1).toNat, (phF e t).length ≤ 100 ∧ (e % ((t : Int) + 1) = 0 → 2 ≤ (phiL ((t : Int) + 1)).length ∧ (phiL ((t : Int) + 1)).length ≤ (phF e t).length ∧ ∀ x ∈ phiL ((t : Int) + 1), -1000 ≤ x ∧ x ≤ 1000) := by decide +kernel
theorem ph_end : ∀ e ∈ phSet 5, phF e (e - 1).toNat = phiL e := by decide +kernel
theorem ph_all : ∀ k ∈ List.range 6, ∀ e ∈ phSet k, e ∈ phSet 5 := by decide +kernel
theorem er_ph : ∀ e ∈ ER, e ∈ phSet 5 ∧ phiL e = polyL e := by decide +kernel
section
variable {P : Program} {w : World} {K : PySem.W.Frag} {mg : Str → Option Value} {base : Heap} {f f1 f2 f3 f4 f5 : Addr} {fd fd1 fd2 fd3 fd4 fd5 : FuncData}
def spNever : Sp := fun _ _ _ _ => False
theorem fn_never {k : Nat} {ps : List Str} : FnOk P w K mg base CX0 k f fd ps spNever := ⟨fun _ _ _ _ h => h.elim, fun _ _ _ _ _ _ _ _ _ _ _ _ _ h => h.elim⟩
def spPhi (n : Nat) : Sp := fun vs H Q _ => ∃ e : Int, vs = [.int e] ∧ e ∈ phSet n ∧ ∀ l H', Same H H' → H l = none → H' l = some (.lst ((phiL e).map V.int)) → Q (.ref l) H'
abbrev phN : List Str := ["e", "found", "d", "by", "left", "top", "at", "k", "j", "x"]
theorem scPH : FnScope phN ["e"] (defScope sLPhi) := ⟨rfl, rfl, rfl, by decide +kernel, rfl, by decide +kernel, by decide +kernel⟩
theorem phi_step {k n : Nat} (hn : n < 5) {spR : Sp} (F : FnP K "_law_phi" sLPhi f fd) (gF : mg "_law_phi" = some (.ref f)) (GR : FnOk P w K mg base CX0 k f fd ["e"] spR) (hR : ∀ e ∈ phSet n, spR = spPhi n) (B : Bl mg) : FnOk P w K mg base CX0 (k + 1) f fd ["e"] (spPhi (n + 1)) := by
  have bF : Binds K fd ["e"] [] := F.bindsN fun _ _ _ _ _ _ us hl => match us, hl with | [_], _ => rfl
  refine F.ok scPH (fun vs H Q E h => ?_) (fun cdv A outer s H vs Q E hr h => ?_)
  · obtain ⟨e, rfl, _⟩ := h
    rfl
  · obtain ⟨e, rfl, he, q⟩ := h
    refine ⟨_, PSs.nox (pss_cons (ps_set (i := 1) scPH.nd rfl (Or.inl rfl) (pe_op op_cat (pe_op op_cat (pe_lst (pa_cons (pe_un un_neg pe_int) pa_nil)) (pe_op op_rep (pe_lst (pa_cons pe_int pa_nil)) (pe_op op_sub (pv 0) pe_int))) (pe_lst (pa_cons pe_int pa_nil))))
      (pss_cons (ps_for PassesOwn.never rfl (pi_range2 rfl (B "range" (by decide +kernel)) (pa_cons pe_int (pa_cons (pv 0) pa_nil))) (pg_name (i := 2) scPH.nd rfl (Or.inl rfl))
        (pss_one (ps_if (pt_cmpR op_eq (pe_op op_mod (pe_callTy call_int1 (by rfl) (B "int" (by decide +kernel)) (by decide +kernel) (pa_cons (pv 0) pa_nil)) (pv 2)) pe_int (nomark _))
          (pss_cons (ps_set (i := 3) scPH.nd rfl (Or.inl rfl) (pe_call GR hr (by rfl) gF F.kp bF .nil pass0 (pa_cons (pv 2) pa_nil)))
          (pss_cons (ps_par (i := 4) (j := 5) rfl scPH.nd rfl rfl (by decide) rfl rfl (pa_cons (pe_callTy call_list_of (by rfl) (B "list" (by decide +kernel)) (by decide +kernel) (pa_cons (pv 1) pa_nil)) (pa_cons (pe_lst pa_nil) pa_nil)) rfl)
          (pss_cons (ps_for PassesOwn.never rfl (pi_range3 rfl (B "range" (by decide +kernel)) (pa_cons (pe_op op_sub (pe_callB call_len_seq (by rfl) (B "len" (by decide +kernel)) PySem.boot_len (pa_cons (pv 4) pa_nil)) (pe_callB call_len_seq (by rfl) (B "len" (by decide +kernel)) PySem.boot_len (pa_cons (pv 3) pa_nil))) (pa_cons (pe_un un_neg pe_int) (pa_cons (pe_un un_neg pe_int) pa_nil))))
              (pg_name (i := 6) scPH.nd rfl (Or.inl rfl))
            (pss_cons (ps_set (i := 7) scPH.nd rfl (Or.inl rfl) (pe_ix ix_list (pv 4) (pe_op op_sub (pe_op op_add (pv 6) (pe_callB call_len_seq (by rfl) (B "len" (by decide +kernel)) PySem.boot_len (pa_cons (pv 3) pa_nil))) pe_int) (fun _ _ => rfl)))
            (pss_cons (ps_expr (pe_bm PySem.F.plainAttrs_list PySem.F.slot_list_append PySem.F.type_list_append mt_append (pv 5) (pa_cons (pv 7) pa_nil)))
            (pss_one (ps_for PassesOwn.never rfl (pi_enum (by rfl) (B "enumerate" (by decide +kernel)) (pa_cons (pv 3) pa_nil)) (pg_tup rfl (pgs_cons (pg_name (i := 8) scPH.nd rfl (Or.inl rfl)) (pgs_cons (pg_name (i := 9) scPH.nd rfl (Or.inl rfl)) pgs_nil)))
              (pss_one (ps_asg (pe_op op_sub (pe_ix ix_list (pv 4) (pe_op op_add (pv 6) (pv 8)) (fun _ _ => rfl)) (pe_op op_mul (pv 7) (pv 9))) (pg_sub (pv 4) (pe_op op_add (pv 6) (pv 8)) set_list))))))))
          (pss_one (ps_set (i := 1) scPH.nd rfl (Or.inl rfl) (pe_revL (pv 5))))))) pss_nil)))
      (pss_one (ps_ret (pv 1))))), ?_⟩
    obtain ⟨eb, dn⟩ := ph_down n (List.mem_range.mpr hn) e he
    have e5 := ph_all (n + 1) (List.mem_range.mpr (by omega)) e he
    have bd := ph_bd e e5
    refine ⟨_, rfl, by show 1 ≤ sizeLine; decide, fun z1 hz1 => ⟨by show 1 ≤ sizeLine; decide, fun z2 hz2 => ?_⟩⟩
    have n12 : z1 ≠ z2 := ne_of_none upd_same hz2
    refine ⟨_, rfl, _, _, rfl, rfl, z2, _, _, rfl, rfl, upd_same, by omega, by omega, sl_1000 (by simp; omega), fun z3 hz3 => ?_⟩
    rw [rep_flat]
    have sA : Same H (upd (upd H z1 (.lst [.int (-1)])) z2 (.lst [.int 0])) := same_new (same_upd hz1) hz2
    have sB := same_new (o := .lst (List.replicate (e - 1).toNat (V.int 0))) sA hz3
    have g1 : upd (upd (upd H z1 (.lst [.int (-1)])) z2 (.lst [.int 0])) z3 (.lst (List.replicate (e - 1).toNat (V.int 0))) z1 = some (.lst [.int (-1)]) := by
      have q1 : upd (upd H z1 (.lst [.int (-1)])) z2 (.lst [.int 0]) z1 = some (.lst [.int (-1)]) := by rw [upd_ne n12]; exact upd_same
      rw [upd_ne (ne_of_none q1 hz3)]
      exact q1
    refine ⟨z1, z3, _, _, rfl, rfl, g1, upd_same, sl_1000 (by simp; omega), fun z4 hz4 => ?_⟩
    have sC := same_new (o := .lst ([V.int (-1)] ++ List.replicate (e - 1).toNat (V.int 0))) sB hz4
    generalize hH4 : upd (upd (upd (upd H z1 (.lst [.int (-1)])) z2 (.lst [.int 0])) z3 (.lst (List.replicate (e - 1).toNat (V.int 0)))) z4 (.lst ([V.int (-1)] ++ List.replicate (e - 1).toNat (V.int 0))) = H4 at sC
    have g4 : H4 z4 = some (.lst ([V.int (-1)] ++ List.replicate (e - 1).toNat (V.int 0))) := by rw [← hH4, upd_same]
    refine ⟨by show 1 ≤ sizeLine; decide, fun z5 hz5 => ?_⟩
    have s5 : Same H4 (upd H4 z5 (.lst [.int 1])) := same_upd hz5
    refine ⟨z4, z5, _, _, rfl, rfl, s5 _ _ g4, upd_same, sl_1000 (by simp; omega), fun L hL => ?_⟩
    have s6 := same_new (o := .lst ([V.int (-1)] ++ List.replicate (e - 1).toNat (V.int 0) ++ [V.int 1])) (sC.trans s5) hL
    have nL : H L = none := (sC.trans s5).free hL
    generalize hH6 : upd (upd H4 z5 (.lst [.int 1])) L (.lst ([V.int (-1)] ++ List.replicate (e - 1).toNat (V.int 0) ++ [V.int 1])) = H6 at s6
    have g6 : H6 L = some (.lst ((phF e 0).map V.int)) := by
      rw [← hH6, upd_same]
      show _ = some (HO.lst ((([-1] : List Int) ++ List.replicate (e - 1).toNat 0 ++ [1]).map V.int))
      simp
    refine ⟨_, rfl, 1, e, rfl, ⟨by omega, by omega, by omega, by omega⟩, ?_⟩
    refine for_range (lo := 1) (n := (e - 1).toNat) (fun t σ H7 => ∃ (Lx : Addr) (u2 u3 u4 u5 u6 u7 u8 u9 : Option V), σ = [some (.int e), some (.ref Lx), u2, u3, u4, u5, u6, u7, u8, u9] ∧ Same H H7 ∧ H Lx = none ∧ H7 Lx = some (.lst ((phF e t).map V.int)))
      ⟨L, none, none, none, none, none, none, none, none, rfl, s6, nL, g6⟩ ?_ ?_
    · rintro t σ H7 ht ⟨Lx, u2, u3, u4, u5, u6, u7, u8, u9, rfl, s7, nLx, g7⟩
      obtain ⟨pl, pb⟩ := bd t (List.mem_range.mpr ht)
      have ed : (1 : Int) + (t : Int) = (t : Int) + 1 := Int.add_comm _ _
      rw [ed]
      refine ⟨_, rfl, Or.inl ⟨_, rfl, _, rfl, _, _, rfl, rfl, (by show (0 : Int) < (t : Int) + 1; omega), rfl, _, rfl, ?_⟩⟩
      refine ite2 (fun c => ?_) (fun c => ?_)
      · have c1 : e % ((t : Int) + 1) = 0 := eqI c
        obtain ⟨b2, bl, bx⟩ := pb c1
        have dm := dn t (List.mem_range.mpr ht) c1
        have e1 : phF e (t + 1) = rstep (phF e t) (phiL ((t : Int) + 1)) := by
          show (if e % ((t : Int) + 1) = 0 then _ else _) = _
          rw [if_pos c1]
        rw [e1]
        generalize hby : phiL ((t : Int) + 1) = by_ at b2 bl bx
        generalize phF e t = left at pl bl g7
        rw [hR _ dm]
        refine ⟨_, rfl, (t : Int) + 1, rfl, dm, fun bA H8 s8 nB gB => ?_⟩
        rw [hby] at gB
        have nB0 : H bA = none := s7.free nB
        have s78 := s7.trans s8
        have g8 := s8 _ _ g7
        refine ⟨_, rfl, Lx, _, rfl, .inl (SqL.of g8), fun Lf hLf => ?_⟩
        have s9 := same_new (o := .lst (left.map V.int)) s78 hLf
        have nLf : H Lf = none := s78.free hLf
        have g9 : upd H8 Lf (.lst (left.map V.int)) Lf = some (.lst (left.map V.int)) := upd_same
        have gB9 := (same_upd (o := .lst (left.map V.int)) hLf) _ _ gB
        generalize upd H8 Lf (.lst (left.map V.int)) = H9 at s9 g9 gB9
        refine ⟨by decide, fun FD hFD => ⟨_, _, rfl, ?_⟩⟩
        have sFD : Same H9 (upd H9 FD (.lst [])) := same_upd hFD
        have nFD : H FD = none := s9.free hFD
        have hLF : Lf ≠ FD := ne_of_none g9 hFD
        have hBL : bA ≠ Lf := ne_of_none gB hLf
        have hBF : bA ≠ FD := ne_of_none gB9 hFD
        refine ⟨_, rfl, Lf, _, rfl, .inl (SqL.of (sFD _ _ g9)), _, rfl, bA, _, rfl, .inl (SqL.of (sFD _ _ gB9)), _, _, rfl, rfl, _, rfl, _, rfl, _, _, _, _, rfl, RgC.neg (by rw [List.length_map, List.length_map]; omega) (by rw [List.length_map, List.length_map]; omega) (by omega) (by omega), ?_⟩
        rw [List.length_map, List.length_map]
        have hn : (((left.length : Nat) : Int) - ((by_.length : Nat) : Int) - -1).toNat = left.length - by_.length + 1 := by omega
        rw [hn]
        refine for_rangeC (lo := ((left.length : Nat) : Int) - ((by_.length : Nat) : Int)) (c := -1) (n := left.length - by_.length + 1) (fun m σ H11 => ∃ u6 u7 u8 u9, σ = [some (.int e), some (.ref Lx), some (.int ((t : Int) + 1)), some (.ref bA), some (.ref Lf), some (.ref FD), u6, u7, u8, u9] ∧ Same H H11 ∧ H11 bA = some (.lst (by_.map V.int)) ∧ H11 Lf = some (.lst ((rkL by_ left m).1.map V.int)) ∧ H11 FD = some (.lst ((rkL by_ left m).2.map V.int)))
          ⟨u6, u7, u8, u9, rfl, s9.trans sFD, sFD _ _ gB9, sFD _ _ g9, upd_same⟩ ?_ ?_
        · rintro m σ H11 hm ⟨w6, w7, w8, w9, rfl, s11, gB11, gL11, gF11⟩
          have rl := rkL_len by_ left m
          have e1 : ((left.length : Nat) : Int) - ((by_.length : Nat) : Int) + ((m : Nat) : Int) * -1 = ((left.length - by_.length - m : Nat) : Int) := by omega
          rw [e1]
          have e2 : ((left.length - by_.length - m : Nat) : Int) + ((by_.map V.int).length : Int) - 1 = ((left.length - by_.length - m + by_.length - 1 : Nat) : Int) := by rw [List.length_map]; omega
          have tp : atI ((rkL by_ left m).1.map V.int) (((left.length - by_.length - m : Nat) : Int) + ((by_.map V.int).length : Int) - 1) = some (V.int ((rkL by_ left m).1.getD (left.length - by_.length - m + by_.length - 1) 0)) := by
            rw [e2]
            exact atI_nat (getD_of (by rw [rl.1]; omega))
          generalize htop : (rkL by_ left m).1.getD (left.length - by_.length - m + by_.length - 1) 0 = top at tp
          refine ⟨_, rfl, _, rfl, _, rfl, bA, _, rfl, .inl (SqL.of gB11), _, _, rfl, rfl, _, _, rfl, rfl, Lf, _, _, .int top, rfl, rfl, SqL.of gL11, tp, ?_⟩
          refine ⟨_, rfl, Or.inl ⟨rfl, _, SqL.of gF11⟩, _, rfl, FD, _, _, rfl, rfl, gF11, sl_lt (by rw [List.length_map, rl.2]; omega), ?_⟩
          generalize hH12 : upd H11 FD (.lst ((rkL by_ left m).2.map V.int ++ [.int top])) = H12
          have s12 : Same H H12 := by rw [← hH12]; exact same_at s11 nFD
          have gB12 : H12 bA = some (.lst (by_.map V.int)) := by rw [← hH12, upd_ne hBF]; exact gB11
          have gL12 : H12 Lf = some (.lst ((rkL by_ left m).1.map V.int)) := by rw [← hH12, upd_ne hLF]; exact gL11
          have gF12 : H12 FD = some (.lst ((rkL by_ left (m + 1)).2.map V.int)) := by
            rw [← hH12, upd_same]
            show _ = some (HO.lst (((rkL by_ left m).2 ++ [(rkL by_ left m).1.getD (left.length - by_.length - m + by_.length - 1) 0]).map V.int))
            rw [htop, List.map_append]
            rfl
          refine ⟨_, rfl, bA, by_.map V.int, rfl, SqL.of gB12, ?_⟩
          refine for_it (walk_enum (K := K) (a := bA) (xs := by_.map V.int)) (fun a σ H13 => ∃ u8 u9, σ = [some (.int e), some (.ref Lx), some (.int ((t : Int) + 1)), some (.ref bA), some (.ref Lf), some (.ref FD), some (.int ((left.length - by_.length - m : Nat) : Int)), some (.int top), u8, u9] ∧ Same H H13 ∧ H13 bA = some (.lst (by_.map V.int)) ∧ H13 Lf = some (.lst ((subN top by_ (left.length - by_.length - m) (rkL by_ left m).1 a).map V.int)) ∧ H13 FD = some (.lst ((rkL by_ left (m + 1)).2.map V.int)))
            ⟨w8, w9, rfl, s12, gB12, gL12, gF12⟩ (fun a σ H13 _ ⟨_, _, _, _, z, _⟩ => SqL.of z) ?_ ?_
          · rintro a v σ H13 H14 ha ⟨w8', w9', rfl, s13, gB13, gL13, gF13⟩ ⟨T5, c5, y5, rfl, hT5, rfl, ec, ey⟩
            obtain ⟨tv, rfl, htv⟩ := getI ey
            obtain rfl := Option.some.inj ec
            have al := ltL htv
            have tvb := bx tv (List.mem_of_getElem? htv)
            have sl := subN_len top by_ (left.length - by_.length - m) (rkL by_ left m).1 a
            have s14 : Same H13 (upd H13 T5 (.tup [.int (a : Int), .int tv])) := same_upd hT5
            have gL14 := s14 _ _ gL13
            have e3 : ((left.length - by_.length - m : Nat) : Int) + (a : Int) = ((left.length - by_.length - m + a : Nat) : Int) := by omega
            have tp2 : atI ((subN top by_ (left.length - by_.length - m) (rkL by_ left m).1 a).map V.int) (((left.length - by_.length - m : Nat) : Int) + (a : Int)) = some (V.int ((subN top by_ (left.length - by_.length - m) (rkL by_ left m).1 a).getD (left.length - by_.length - m + a) 0)) := by
              rw [e3]
              exact atI_nat (getD_of (by rw [sl, rl.1]; omega))
            have e4 : by_.getD a 0 = tv := by rw [List.getD_eq_getElem?_getD, htv]; rfl
            refine ⟨T5, _, rfl, SqT.of upd_same, rfl, _, _, rfl, _, _, rfl, rfl, ?_⟩
            refine ⟨_, rfl, _, rfl, _, rfl, _, _, rfl, rfl, Lf, _, _, _, rfl, rfl, SqL.of gL14, tp2, _, rfl, _, rfl, _, _, rfl, rfl, Or.inr ⟨by omega, by omega⟩, _, _, rfl, rfl, _, rfl, _, rfl, _, rfl, _, _, rfl, rfl, Lf, _, _, left.length - by_.length - m + a, rfl, rfl, gL14, ?_, ?_⟩
            · rw [e3, List.length_map, sl, rl.1]
              exact ixN_nat (by omega)
            · refine ⟨some (.int (a : Int)), some (.int tv), rfl, same_at (s13.trans s14) nLf, ?_, ?_, ?_⟩
              · rw [upd_ne hBL]
                exact s14 _ _ gB13
              · rw [upd_same, ← List.map_set]
                show _ = some (HO.lst (((subN top by_ (left.length - by_.length - m) (rkL by_ left m).1 a).set (left.length - by_.length - m + a) ((subN top by_ (left.length - by_.length - m) (rkL by_ left m).1 a).getD (left.length - by_.length - m + a) 0 - top * by_.getD a 0)).map V.int))
                rw [e4]
              · rw [upd_ne hLF.symm]
                exact s14 _ _ gF13
          · rintro σ H13 ⟨w8', w9', rfl, s13, gB13, gL13, gF13⟩
            rw [List.length_map] at gL13
            refine ⟨_, _, _, _, rfl, s13, gB13, ?_, gF13⟩
            rw [gL13]
            show _ = some (HO.lst ((subN ((rkL by_ left m).1.getD (left.length - by_.length - m + by_.length - 1) 0) by_ (left.length - by_.length - m) (rkL by_ left m).1 by_.length).map V.int))
            rw [htop]
        · rintro σ H11 ⟨w6, w7, w8, w9, rfl, s11, gB11, gL11, gF11⟩
          refine ⟨_, rfl, FD, _, rfl, SqL.of gF11, fun L2 hL2 => ?_⟩
          have s15 := same_new (o := .lst ((rkL by_ left (left.length - by_.length + 1)).2.map V.int).reverse) s11 hL2
          refine ⟨L2, _, _, _, _, _, _, _, _, rfl, s15, s11.free hL2, ?_⟩
          rw [upd_same, ← List.map_reverse]
          rfl
      · have c1 := neI c
        refine ⟨Lx, _, _, _, _, _, _, _, _, rfl, s7, nLx, ?_⟩
        rw [g7]
        show _ = some (HO.lst ((if e % ((t : Int) + 1) = 0 then _ else phF e t).map V.int))
        rw [if_neg c1]
    · rintro σ H7 ⟨Lx, u2, u3, u4, u5, u6, u7, u8, u9, rfl, s7, nLx, g7⟩
      rw [ph_end e e5] at g7
      exact ⟨_, rfl, q Lx H7 s7 nLx g7⟩
def spLPhi : Sp := fun vs H Q _ => ∃ e : Int, vs = [.int e] ∧ e ∈ ER ∧ ∀ l H', Same H H' → H l = none → H' l = some (.lst ((polyL e).map V.int)) → Q (.ref l) H'
theorem ok_lPhi (F : FnP K "_law_phi" sLPhi f fd) (gF : mg "_law_phi" = some (.ref f)) (B : Bl mg) : FnOk P w K mg base CX0 5 f fd ["e"] spLPhi := by
  have s0 : FnOk P w K mg base CX0 0 f fd ["e"] spNever := fn_never
  have s1 := phi_step (n := 0) (by decide) F gF s0 (fun e he => absurd he (by simp [phSet])) B
  have s2 := phi_step (n := 1) (by decide) F gF s1 (fun _ _ => rfl) B
  have s3 := phi_step (n := 2) (by decide) F gF s2 (fun _ _ => rfl) B
  have s4 := phi_step (n := 3) (by decide) F gF s3 (fun _ _ => rfl) B
  have s5 := phi_step (n := 4) (by decide) F gF s4 (fun _ _ => rfl) B
  exact s5.imp fun vs H Q E h => by
    obtain ⟨e, rfl, he, q⟩ := h
    obtain ⟨h1, h2⟩ := er_ph e he
    exact ⟨e, rfl, h1, by rw [h2]; exact q⟩
end
end K45

/-! The law's numbers. -/
namespace K45
open PySem PySem.Spec PyProof.Rows L2
theorem subN_zero (dv : List Int) (a : Nat) (r : List Int) : ∀ k, subN 0 dv a r k = r
  | 0 => rfl
  | k + 1 => by
    show (subN 0 dv a r k).set (a + k) ((subN 0 dv a r k).getD (a + k) 0 - 0 * dv.getD k 0) = r
    rw [subN_zero dv a r k, Int.zero_mul, Int.sub_zero]
    rcases Nat.lt_or_ge (a + k) r.length with h | h
    · rw [List.getD_eq_getElem?_getD, List.getElem?_eq_getElem h]
      show r.set (a + k) r[a + k] = r
      exact List.set_getElem_self h
    · exact List.set_eq_of_length_le h
theorem mdGo_step (ring sums : List Int) (m : Nat) : mdGo ring sums (m + 1) = subN ((mdGo ring sums m).getD (sums.length - 1 - m) 0) ring (sums.length - 1 - m - (ring.length - 1)) (mdGo ring sums m) ring.length := by
  show (if _ = 0 then _ else _) = _
  split
  · rename_i h
    rw [h, subN_zero]
  · rfl
/-- the items, folded -/
def fldL (e : Int) (xs : List Int) : List Int := addN e 0 xs (List.replicate e.toNat 0) xs.length
theorem fld_get (e : Int) (he : 0 < e) (xs : List Int) : ∀ k, k ≤ e.toNat → ∀ j, (addN e 0 xs (List.replicate e.toNat 0) k).getD j 0 = if j < k then xs.getD j 0 else 0
  | 0, _, j => by
    show (List.replicate e.toNat 0).getD j 0 = _
    rw [if_neg (Nat.not_lt_zero j), List.getD_eq_getElem?_getD, List.getElem?_replicate]
    split <;> rfl
  | k + 1, h, j => by
    have ih := fld_get e he xs k (by omega)
    have hl : (addN e 0 xs (List.replicate e.toNat 0) k).length = e.toNat := by rw [addN_len, List.length_replicate]
    show (stepT e (addN e 0 xs (List.replicate e.toNat 0) k) (0 + (k : Int)) (xs.getD k 0)).getD j 0 = _
    unfold stepT
    have em : ((0 + (k : Int)) % e).toNat = k := by
      rw [Int.zero_add, Int.emod_eq_of_lt (by omega) (by omega)]
      rfl
    rw [em, ih k, if_neg (Nat.lt_irrefl k), Int.zero_add]
    have ihj := ih j
    rw [List.getD_eq_getElem?_getD] at ihj ⊢
    rw [List.getElem?_set]
    by_cases hjk : k = j
    · subst hjk
      rw [if_pos rfl, if_pos (by omega), if_pos (by omega)]
      rfl
    · rw [if_neg hjk, ihj]
      by_cases h1 : j < k
      · rw [if_pos h1, if_pos (by omega)]
      · rw [if_neg h1, if_neg (by omega)]
theorem fld_len (e : Int) (xs : List Int) : (fldL e xs).length = e.toNat := by
  unfold fldL
  rw [addN_len, List.length_replicate]
theorem fld_red {e : Int} (h : e ∈ ER) {xs : List Int} (hl : xs.length ≤ e.toNat) : redL (fldL e xs) (polyL e) = redL xs (polyL e) := by
  have eb := er_bd e h
  obtain ⟨m1, m2, m3, m4⟩ := er_mon e h
  refine ext_getD (by rw [redL_len' (by omega), redL_len' (by omega)]) fun j hj => ?_
  rw [redL_len' (by omega)] at hj
  rw [red_ph (by omega) hj, red_ph (by omega) hj]
  unfold ph
  rw [fld_len]
  have e1 : sm e.toNat (fun i => (fldL e xs).getD i 0 * Tz ((polyL e).length - 1) (polyL e) j i) = sm e.toNat (fun i => (if i < xs.length then xs.getD i 0 * Tz ((polyL e).length - 1) (polyL e) j i else 0)) := by
    refine sm_congr fun i hi => ?_
    unfold fldL
    rw [fld_get e (by omega) xs xs.length hl i]
    by_cases c : i < xs.length
    · rw [if_pos c, if_pos c]
    · rw [if_neg c, if_neg c, Int.zero_mul]
  rw [e1]
  have e2 : ∀ n, xs.length ≤ n → sm n (fun i => (if i < xs.length then xs.getD i 0 * Tz ((polyL e).length - 1) (polyL e) j i else 0)) = sm xs.length (fun i => xs.getD i 0 * Tz ((polyL e).length - 1) (polyL e) j i) := by
    intro n hn
    induction n with
    | zero =>
      have : xs.length = 0 := by omega
      rw [this]
      rfl
    | succ n ih =>
      rcases Nat.lt_or_ge n xs.length with z | z
      · have : xs.length = n + 1 := by omega
        rw [this]
        refine sm_congr fun i hi => ?_
        rw [if_pos hi]
      · show sm n _ + (if n < xs.length then _ else 0) = _
        rw [ih z, if_neg (by omega), Int.add_zero]
  exact e2 _ hl
def numL (e : Int) (xs : List Int) (bt : Int) : Num := lowL (redL xs (polyL e)) bt
section
variable {P : Program} {w : World} {K : PySem.W.Frag} {mg : Str → Option Value} {base : Heap} {f f1 f2 f3 f4 f5 : Addr} {fd fd1 fd2 fd3 fd4 fd5 : FuncData}
def spLNum (K : PySem.W.Frag) : Sp := fun vs H Q _ => ∃ (wA b Ph : Addr) (kvs : List (Key × V)) (xs : List Int) (e bt : Int), vs = [.ref wA, .ref b, .int bt] ∧ H wA = some (.dK kvs) ∧ valV kvs (.inr "order") = some (.int e) ∧ valV kvs (.inr "phi") = some (.ref Ph) ∧ e ∈ ER ∧ H Ph = some (.lst ((polyL e).map V.int)) ∧ SqL K H b (xs.map V.int) ∧ xs.length ≤ e.toNat ∧ 1 ≤ bt ∧ bt < 1073741824 ∧ ∀ v H', Same H H' → NumAt K H' v (numL e xs bt) → Q v H'
abbrev nuN : List Str := ["world", "items", "bottom", "e", "phi", "left", "at", "x", "d", "k", "j", "common"]
theorem scNU : FnScope nuN ["world", "items", "bottom"] (defScope sLNumber) := ⟨rfl, rfl, rfl, by decide +kernel, rfl, by decide +kernel, by decide +kernel⟩
theorem ok_lNum (F : FnP K "_law_number" sLNumber f fd) (B : Bl mg) (F1 : FnP K "_law_divisor" sLDiv f1 fd1) (g1 : mg "_law_divisor" = some (.ref f1)) (G1 : FnOk P w K mg base CX0 1 f1 fd1 ["one", "other"] spGcd) : FnOk P w K mg base CX0 2 f fd ["world", "items", "bottom"] (spLNum K) := by
  have b1 : Binds K fd1 ["one", "other"] [] := F1.bindsN fun _ _ _ _ _ _ us hl => match us, hl with | [_, _], _ => rfl
  refine F.ok scNU (fun vs H Q E h => ?_) (fun cdv A outer s H vs Q E hr h => ?_)
  · obtain ⟨wA, b, Ph, kvs, xs, e, bt, rfl, _⟩ := h
    rfl
  · obtain ⟨wA, b, Ph, kvs, xs, e, bt, rfl, hW, v1, v2, he, hPh, hS, xl, b1', b2', k⟩ := h
    have hu := hu_of hr
    refine ⟨_, PSs.nox (pss_cons (ps_par (i := 3) (j := 4) rfl scNU.nd rfl rfl (by decide) rfl rfl (pa_cons (pe_dget hu (pv 0) pe_str (fun _ _ => rfl)) (pa_cons (pe_dget hu (pv 0) pe_str (fun _ _ => rfl)) pa_nil)) rfl)
      (pss_cons (ps_set (i := 5) scNU.nd rfl (Or.inl rfl) (pe_op op_rep (pe_lst (pa_cons pe_int pa_nil)) (pe_callB (call_max2 rfl) (by rfl) (B "max" (by decide +kernel)) (by decide +kernel) (pa_cons (pv 3) (pa_cons (pe_callB call_len_seq (by rfl) (B "len" (by decide +kernel)) PySem.boot_len (pa_cons (pv 4) pa_nil)) pa_nil)))))
      (pss_cons (ps_for PassesOwn.never rfl (pi_enum (by rfl) (B "enumerate" (by decide +kernel)) (pa_cons (pv 1) pa_nil)) (pg_tup rfl (pgs_cons (pg_name (i := 6) scNU.nd rfl (Or.inl rfl)) (pgs_cons (pg_name (i := 7) scNU.nd rfl (Or.inl rfl)) pgs_nil)))
        (pss_one (ps_asg (pe_op op_add (pe_ix ix_list (pv 5) (pe_op op_mod (pe_callTy call_int1 (by rfl) (B "int" (by decide +kernel)) (by decide +kernel) (pa_cons (pv 6) pa_nil)) (pv 3)) (fun _ _ => rfl)) (pv 7)) (pg_sub (pv 5) (pe_op op_mod (pe_callTy call_int1 (by rfl) (B "int" (by decide +kernel)) (by decide +kernel) (pa_cons (pv 6) pa_nil)) (pv 3)) set_list))))
      (pss_cons (ps_set (i := 8) scNU.nd rfl (Or.inl rfl) (pe_op op_sub (pe_callB call_len_seq (by rfl) (B "len" (by decide +kernel)) PySem.boot_len (pa_cons (pv 4) pa_nil)) pe_int))
      (pss_cons (ps_for PassesOwn.never rfl (pi_range3 rfl (B "range" (by decide +kernel)) (pa_cons (pe_op op_sub (pe_callB call_len_seq (by rfl) (B "len" (by decide +kernel)) PySem.boot_len (pa_cons (pv 5) pa_nil)) pe_int) (pa_cons (pe_op op_sub (pv 8) pe_int) (pa_cons (pe_un un_neg pe_int) pa_nil))))
          (pg_name (i := 6) scNU.nd rfl (Or.inl rfl))
        (pss_cons (ps_set (i := 9) scNU.nd rfl (Or.inl rfl) (pe_ix ix_list (pv 5) (pv 6) (fun _ _ => rfl)))
        (pss_one (ps_for PassesOwn.never rfl (pi_range1 rfl (B "range" (by decide +kernel)) (pa_cons (pe_op op_add (pv 8) pe_int) pa_nil)) (pg_name (i := 10) scNU.nd rfl (Or.inl rfl))
          (pss_one (ps_asg (pe_op op_sub (pe_ix ix_list (pv 5) (pe_op op_add (pe_op op_sub (pv 6) (pv 8)) (pv 10)) (fun _ _ => rfl)) (pe_op op_mul (pv 9) (pe_ix ix_list (pv 4) (pv 10) (fun _ _ => rfl)))) (pg_sub (pv 5) (pe_op op_add (pe_op op_sub (pv 6) (pv 8)) (pv 10)) set_list)))))))
      (pss_cons (ps_set (i := 11) scNU.nd rfl (Or.inr rfl) (pe_callB call_abs (by rfl) (B "abs" (by decide +kernel)) (by decide +kernel) (pa_cons (pv 2) pa_nil)))
      (pss_cons (ps_for PassesOwn.never rfl (pi_list (pe_slice sl_list (pv 5) po_none (po_some (pv 8)))) (pg_name (i := 7) scNU.nd rfl (Or.inl rfl)) (pss_one (ps_set (i := 11) scNU.nd rfl (Or.inr rfl) (pe_call G1 hr rfl g1 F1.kp b1 .nil pass0 (pa_cons (pv 11) (pa_cons (pv 7) pa_nil))))))
      (pss_cons (ps_set (i := 11) scNU.nd rfl (Or.inr rfl) (pe_ifExp (pt_cmpR op_gt (pv 2) pe_int (nomark _)) (pv 11) (pe_un un_neg (pv 11))))
      (pss_one (ps_ret (pe_tup (pa_cons (pe_callTy call_tuple_of (by rfl) (B "tuple" (by decide +kernel)) (by decide +kernel) (pa_cons
        (pe_lc (own := [("x", 7)]) (g := gName 7) (tt := tYes) (te := tOp rFdv (tVar 7) (tVar 11)) rfl scNU.nd (pi_list (pe_slice sl_list (pv 5) po_none (po_some (pv 8)))) (blkOk_by (own := [("x", 7)]) (N := nuN) (sc := defScope sLNumber) (by decide +kernel))
          (fun _ _ _ _ _ => pg_name (i := 7) scNU.nd rfl (Or.inl rfl)) (fun _ _ _ _ _ => pts_nil) (fun _ _ _ _ _ => pe_op op_fdiv (pv 7) (pv 11))) pa_nil)) (pa_cons (pe_op op_fdiv (pv 2) (pv 11)) pa_nil))))))))))))), ?_⟩
    obtain ⟨m1, m2, m3, m4⟩ := er_mon e he
    have eb := er_bd e he
    have ep := er_poly e he
    have hfr := fld_red he xl
    have fl := fld_len e xs
    have dgO : ∀ {H1 : Hp}, Same H H1 → DGet H1 wA (.str "order") (some (.int e)) := fun s => by
      rw [← v1]
      exact DGet.k (k := Sum.inr "order") (s _ _ hW)
    have dgP : ∀ {H1 : Hp}, Same H H1 → DGet H1 wA (.str "phi") (some (.ref Ph)) := fun s => by
      rw [← v2]
      exact DGet.k (k := Sum.inr "phi") (s _ _ hW)
    unfold numL at k
    rw [← hfr] at k
    clear hfr
    generalize hPo : polyL e = po at hPh m1 m2 m3 m4 k ep
    refine ⟨_, rfl, wA, _, rfl, dgO (Same.refl H), _, rfl, wA, _, rfl, dgP (Same.refl H), _, _, rfl, ?_⟩
    refine ⟨by show 1 ≤ sizeLine; decide, fun z hz => ?_⟩
    have sz : Same H (upd H z (.lst [.int 0])) := same_upd hz
    refine ⟨_, rfl, _, rfl, Ph, _, rfl, .inl (SqL.of (sz _ _ hPh)), e, _, rfl, ?_⟩
    have emax : (if (((po.map V.int).length : Nat) : Int) > e then (((po.map V.int).length : Nat) : Int) else e) = e := by
      rw [if_neg]
      rw [List.length_map]
      omega
    rw [emax]
    refine ⟨z, _, _, rfl, rfl, upd_same, by omega, by omega, sl_1000 (by simp; omega), fun L hL => ?_⟩
    rw [rep_flat]
    have sL : Same H (upd (upd H z (.lst [.int 0])) L (.lst (List.replicate e.toNat (V.int 0)))) := same_new sz hL
    have nL : H L = none := sz.free hL
    generalize hH1 : upd (upd H z (.lst [.int 0])) L (.lst (List.replicate e.toNat (V.int 0))) = H1 at sL
    have gL : H1 L = some (.lst ((addN e 0 xs (List.replicate e.toNat 0) 0).map V.int)) := by
      rw [← hH1, upd_same]
      show _ = some (HO.lst ((List.replicate e.toNat (0 : Int)).map V.int))
      rw [List.map_replicate]
    refine ⟨_, rfl, b, xs.map V.int, rfl, sL.seq hS, ?_⟩
    refine for_it (walk_enum (K := K) (a := b) (xs := xs.map V.int)) (fun i σ H2 => ∃ u6 u7, σ = [some (.ref wA), some (.ref b), some (.int bt), some (.int e), some (.ref Ph), some (.ref L), u6, u7, none, none, none, none] ∧ Same H H2 ∧ H2 L = some (.lst ((addN e 0 xs (List.replicate e.toNat 0) i).map V.int)))
      ⟨none, none, rfl, sL, gL⟩ (fun i σ H2 _ ⟨_, _, _, s2, _⟩ => s2.seq hS) ?_ ?_
    · rintro i v σ H2 H3 hi ⟨u6, u7, rfl, s2, g2⟩ ⟨T5, c5, y5, rfl, hT5, rfl, ec, ey⟩
      obtain ⟨x, rfl, hx⟩ := getI ey
      obtain rfl := Option.some.inj ec
      have s3 : Same H (upd H2 T5 (.tup [.int (i : Int), .int x])) := same_new s2 hT5
      have g3 := (same_upd (o := .tup [.int (i : Int), .int x]) hT5) _ _ g2
      have al := addN_len e 0 xs (List.replicate e.toNat 0) i
      rw [List.length_replicate] at al
      have em : (i : Int) % e = ((i : Nat) : Int) := Int.emod_eq_of_lt (by omega) (by have := ltL hx; omega)
      have il := ltL hx
      have ej : ((0 + (i : Int)) % e).toNat = i := by rw [Int.zero_add, em]; rfl
      have gx : xs.getD i 0 = x := by rw [List.getD_eq_getElem?_getD, hx]; rfl
      have e1 : addN e 0 xs (List.replicate e.toNat 0) (i + 1) = (addN e 0 xs (List.replicate e.toNat 0) i).set i ((addN e 0 xs (List.replicate e.toNat 0) i).getD i 0 + x) := by
        show stepT e (addN e 0 xs (List.replicate e.toNat 0) i) (0 + (i : Int)) (xs.getD i 0) = _
        unfold stepT
        rw [ej, gx]
      rw [e1]
      generalize addN e 0 xs (List.replicate e.toNat 0) i = U at al g3
      have tp : atI (U.map V.int) ((i : Int) % e) = some (V.int (U.getD i 0)) := by
        rw [em]
        exact atI_nat (getD_of (by omega))
      refine ⟨T5, _, rfl, SqT.of upd_same, rfl, _, _, rfl, _, _, rfl, rfl, ?_⟩
      refine ⟨_, rfl, _, rfl, Or.inl ⟨_, rfl, _, rfl, _, _, rfl, rfl, (by show (0 : Int) < e; omega), L, _, _, _, rfl, rfl, SqL.of g3, tp, _, rfl, _, _, rfl, rfl, _, rfl, _, rfl, Or.inl ⟨_, rfl, _, rfl, _, _, rfl, rfl, (by show (0 : Int) < e; omega), L, _, _, i, rfl, rfl, g3, ?_, ?_⟩⟩⟩
      · rw [em, List.length_map, al]
        exact ixN_nat (by omega)
      · refine ⟨_, _, rfl, same_at s3 nL, ?_⟩
        rw [upd_same, List.map_set]
    · rintro σ H2 ⟨u6, u7, rfl, s2, g2⟩
      rw [List.length_map] at g2
      have g2' : H2 L = some (.lst ((fldL e xs).map V.int)) := g2
      clear g2
      generalize hfx : fldL e xs = fs at k fl g2'
      refine ⟨_, rfl, Ph, _, rfl, .inl (SqL.of (s2 _ _ hPh)), _, _, rfl, rfl, ?_⟩
      rw [List.length_map]
      refine ⟨_, rfl, L, _, rfl, .inl (SqL.of g2'), _, _, rfl, rfl, _, rfl, _, _, rfl, rfl, _, rfl, _, _, _, _, rfl, RgC.neg (by rw [List.length_map]; omega) (by rw [List.length_map]; omega) (by omega) (by omega), ?_⟩
      rw [List.length_map]
      have hn : (((fs.length : Nat) : Int) - 1 - (((po.length : Nat) : Int) - 1 - 1)).toNat = fs.length - (po.length - 1) := by omega
      rw [hn]
      refine for_rangeC (lo := ((fs.length : Nat) : Int) - 1) (c := -1) (n := fs.length - (po.length - 1)) (fun m σ H3 => ∃ u6 u7 u9 u10, σ = [some (.ref wA), some (.ref b), some (.int bt), some (.int e), some (.ref Ph), some (.ref L), u6, u7, some (.int (((po.length : Nat) : Int) - 1)), u9, u10, none] ∧ Same H H3 ∧ H3 L = some (.lst ((mdGo po fs m).map V.int)))
        ⟨u6, u7, none, none, rfl, s2, g2'⟩ ?_ ?_
      · rintro m σ H3 hm ⟨u6, u7, u9, u10, rfl, s3, g3⟩
        have ln := mdGo_len po fs m
        have e1 : ((fs.length : Nat) : Int) - 1 + (m : Nat) * -1 = ((fs.length - 1 - m : Nat) : Int) := by omega
        rw [e1]
        have tp : atI ((mdGo po fs m).map V.int) ((fs.length - 1 - m : Nat) : Int) = some (V.int ((mdGo po fs m).getD (fs.length - 1 - m) 0)) := atI_nat (getD_of (by rw [ln]; omega))
        have e0 := mdGo_step po fs m
        rw [e0]
        generalize htop : (mdGo po fs m).getD (fs.length - 1 - m) 0 = top at tp
        refine ⟨_, rfl, _, rfl, L, _, _, .int top, rfl, rfl, SqL.of g3, tp, ?_⟩
        refine ⟨_, rfl, _, _, rfl, rfl, _, rfl, by omega, by omega, ?_⟩
        have e2 : (((po.length : Nat) : Int) - 1 + 1).toNat = po.length := by omega
        rw [e2]
        refine for_range (lo := 0) (n := po.length) (fun t σ H4 => ∃ u10, σ = [some (.ref wA), some (.ref b), some (.int bt), some (.int e), some (.ref Ph), some (.ref L), some (.int ((fs.length - 1 - m : Nat) : Int)), u7, some (.int (((po.length : Nat) : Int) - 1)), some (.int top), u10, none] ∧ Same H H4 ∧ H4 L = some (.lst ((subN top po (fs.length - 1 - m - (po.length - 1)) (mdGo po fs m) t).map V.int)))
          ⟨u10, rfl, s3, g3⟩ ?_ ?_
        · rintro t σ H4 ht ⟨u10', rfl, s4, g4⟩
          have sl := subN_len top po (fs.length - 1 - m - (po.length - 1)) (mdGo po fs m) t
          have e3 : ((fs.length - 1 - m : Nat) : Int) - (((po.length : Nat) : Int) - 1) + (0 + (t : Int)) = ((fs.length - 1 - m - (po.length - 1) + t : Nat) : Int) := by omega
          have e4 : (0 : Int) + (t : Int) = (t : Int) := Int.zero_add _
          have tp2 : atI ((subN top po (fs.length - 1 - m - (po.length - 1)) (mdGo po fs m) t).map V.int) (((fs.length - 1 - m : Nat) : Int) - (((po.length : Nat) : Int) - 1) + (0 + (t : Int))) = some (V.int ((subN top po (fs.length - 1 - m - (po.length - 1)) (mdGo po fs m) t).getD (fs.length - 1 - m - (po.length - 1) + t) 0)) := by
            rw [e3]
            exact atI_nat (getD_of (by rw [sl, ln]; omega))
          have tp3 : atI (po.map V.int) ((0 : Int) + (t : Int)) = some (V.int (po.getD t 0)) := by
            rw [e4]
            exact atI_nat (getD_of ht)
          have cb : -1000 ≤ po.getD t 0 ∧ po.getD t 0 ≤ 1000 := by
            rw [List.getD_eq_getElem?_getD, List.getElem?_eq_getElem ht]
            exact m4 _ (List.getElem_mem _)
          refine ⟨_, rfl, _, rfl, _, rfl, _, _, rfl, rfl, _, rfl, _, _, rfl, rfl, L, _, _, _, rfl, rfl, SqL.of g4, tp2, _, rfl, _, rfl, _, rfl, Ph, _, _, _, rfl, rfl, SqL.of (s4 _ _ hPh), tp3, _, _, rfl, rfl, Or.inr ⟨by omega, by omega⟩, _, _, rfl, rfl, _, rfl, _, rfl, _, rfl, _, _, rfl, rfl, _, rfl, _, _, rfl, rfl, L, _, _, fs.length - 1 - m - (po.length - 1) + t, rfl, rfl, g4, ?_, ?_⟩
          · rw [e3, List.length_map, sl, ln]
            exact ixN_nat (by omega)
          · refine ⟨_, rfl, same_at s4 nL, ?_⟩
            rw [upd_same, ← List.map_set]
            rfl
        · rintro σ H4 ⟨u10', rfl, s4, g4⟩
          refine ⟨_, _, _, _, rfl, s4, ?_⟩
          rw [g4]
      · rintro σ H3 ⟨u6, u7, u9, u10, rfl, s3, g3⟩
        have ln := mdGo_len po fs (fs.length - (po.length - 1))
        have emd : mdL po fs = redL fs po := md_red m1 m3
        have eab : (if bt < 0 then -bt else bt) = bt := if_neg (by omega)
        refine ⟨_, rfl, bt, rfl, ?_⟩
        rw [eab]
        have rl : (redL fs po).length = po.length - 1 := redL_len' (by omega)
        have ecut : cutV ((mdGo po fs (fs.length - (po.length - 1))).map V.int) none (some (((po.length : Nat) : Int) - 1)) = (redL fs po).map V.int := by
          rw [← emd]
          unfold cutV mdL
          have e5 : ((po.length : Nat) : Int) - 1 = ((po.length - 1 : Nat) : Int) := by omega
          rw [e5, HT.sIx_nat, HT.sIx_none, List.drop_zero, List.map_take, List.map_append, List.map_replicate, List.take_append_of_le_length (by rw [List.length_map, ln]; omega)]
          congr 1
          rw [List.length_map, ln]
          omega
        refine ⟨_, rfl, _, rfl, _, rfl, L, _, rfl, SqL.of g3, fun L2 hL2 => ?_⟩
        rw [ecut]
        have s5 := same_new (o := .lst ((redL fs po).map V.int)) s3 hL2
        have g5L := (same_upd (o := .lst ((redL fs po).map V.int)) hL2) _ _ g3
        generalize hH5 : upd H3 L2 (.lst ((redL fs po).map V.int)) = H5 at s5 g5L
        have g5 : H5 L2 = some (.lst ((redL fs po).map V.int)) := by rw [← hH5, upd_same]
        generalize hRE : redL fs po = re at g5 k rl ecut
        refine ⟨L2, rfl, ⟨_, SqL.of g5⟩, for_list (K := K) (a := L2) (xs := re.map V.int) (fun i σ H6 => ∃ u, σ = [some (.ref wA), some (.ref b), some (.int bt), some (.int e), some (.ref Ph), some (.ref L), u6, u, some (.int (((po.length : Nat) : Int) - 1)), u9, u10, some (.int (lowC (re.take i) bt))] ∧ Same H5 H6) ⟨u7, rfl, Same.refl _⟩ (fun i σ H6 _ ⟨_, _, z⟩ => SqL.of (z _ _ g5)) ?_ ?_⟩
        · rintro i y σ H6 hi ⟨u, rfl, s6⟩
          obtain ⟨t, rfl, ht⟩ := getI hi
          have cb := lowC_bd (re.take i) bt b1'
          refine ⟨_, rfl, _, rfl, _, _, rfl, some (.int t), ?_, s6⟩
          have e : lowC (re.take (i + 1)) bt = gcdI (lowC (re.take i) bt) t := by
            rw [takeS ht]
            unfold lowC
            rw [List.foldl_append]
            rfl
          rw [e]
          rfl
        · rintro σ H6 ⟨u, rfl, s6⟩
          rw [List.length_map, List.take_length]
          have cb := lowC_bd re bt b1'
          generalize hC : lowC re bt = G at cb
          have g6 := s6 _ _ g5L
          refine ⟨_, rfl, _, _, rfl, rfl, _, rfl, ?_⟩
          refine ite2 (fun _ => ?_) fun c => absurd (decide_eq_true (by omega)) c
          refine ⟨_, rfl, ?_⟩
          refine ⟨_, rfl, _, rfl, _, rfl, L, _, rfl, SqL.of g6, fun L3 hL3 => ?_⟩
          rw [ecut]
          have s7' := same_new (o := .lst (re.map V.int)) (s5.trans s6) hL3
          generalize hH7 : upd H6 L3 (.lst (re.map V.int)) = H7' at s7'
          have g7' : H7' L3 = some (.lst (re.map V.int)) := by rw [← hH7, upd_same]
          refine ⟨L3, rfl, ⟨_, SqL.of g7'⟩, fun D hD => ?_⟩
          refine lc_list (K := K) (a := L3) (xs := re.map V.int) (fun i H7 => Same H7' H7 ∧ H7 D = some (.lst (((re.take i).map fun t => t / G).map V.int))) ⟨same_upd hD, by rw [upd_same]; rfl⟩ (fun i H7 _ ⟨z, _⟩ => SqL.of (z _ _ g7')) ?_ ?_
          · rintro i y H7 hi ⟨s7, g7⟩
            obtain ⟨t, rfl, ht⟩ := getI hi
            have il := ltL ht
            refine ⟨rfl, _, rfl, _, rfl, _, _, rfl, rfl, ⟨by omega, by omega⟩, ?_⟩
            refine ⟨_, g7, sl_lt (by rw [List.length_map, List.length_map, List.length_take]; omega), same_at s7 hD, ?_⟩
            rw [upd_same, takeS ht, List.map_append, List.map_append]
            rfl
          · rintro H7 ⟨s7, g7⟩
            rw [List.length_map, List.take_length] at g7
            refine ⟨D, _, rfl, .inl ⟨SqL.of g7, fun t ht => ?_⟩⟩
            refine ⟨_, rfl, _, rfl, _, _, rfl, rfl, ⟨by omega, by omega⟩, by show 2 ≤ sizeLine; decide, fun p hp => ?_⟩
            have st := same_new (o := .tup ((re.map fun t => t / G).map V.int)) (s7'.trans s7) ht
            refine k _ _ (same_new st hp) ⟨p, t, rfl, ?_, ?_⟩
            · refine SqT.of ?_
              rw [upd_same]
              unfold lowL
              rw [hC]
            · unfold lowL
              rw [hC]
              exact (same_upd hp).tup (SqT.of upd_same)
end
end K45

/-! zip of three tuples. -/
namespace K45
open PySem PySem.Spec PyProof.Rows L2
/-- three tuples of one length as they stand at each turn, the items in new tuples -/
def ItZ3 (K : PySem.W.Frag) (a b c : Addr) : It :=
  ⟨fun i H => ∃ (xs ys zs : List V) (x y z : V), SqT K H a xs ∧ SqT K H b ys ∧ SqT K H c zs ∧ xs[i]? = some x ∧ ys[i]? = some y ∧ zs[i]? = some z,
    fun i H v H' => ∃ T x y z, v = .ref T ∧ H T = none ∧ H' = upd H T (.tup [x, y, z]) ∧ (∀ xs, SqT K H a xs → xs[i]? = some x) ∧ (∀ ys, SqT K H b ys → ys[i]? = some y) ∧ ∀ zs, SqT K H c zs → zs[i]? = some z,
    fun i H => ∃ xs ys zs : List V, SqT K H a xs ∧ SqT K H b ys ∧ SqT K H c zs ∧ xs.length = i ∧ ys.length = i ∧ zs.length = i⟩
theorem turn_zip3 {P : Program} {w : World} {K : PySem.W.Frag} {elts : List Expr} {kk : Nat} {tpos : Pos} {a b c z TI TO i1 i2 i3 : Addr} (S : ZipSep3 z TI TO i1 i2 i3 [i1, a] [i2, b] [i3, c]) (na : a ≠ i1) (nb : b ≠ i2) (nc : c ≠ i3) :
    Turn P w K (.Tuple elts kk tpos) (ItZ3 K a b c) [z, TI, TO, i1, i2, i3] z (fun i h => IsZip h z TI TO .none ∧ IsTupOf3 h TI (.ref i1) (.ref i2) (.ref i3) ∧ (∃ a1 a2 a3, IsTupOf3 h TO a1 a2 a3) ∧ h.IsTupleIter i1 a i ∧ h.IsTupleIter i2 b i ∧ h.IsTupleIter i3 c i) where
  mem := by simp
  obj := fun i h st e he => by
    obtain ⟨hz, hTI, ⟨x, y, u, hTO⟩, ⟨o1, e1, _, d1⟩, ⟨o2, e2, _, d2⟩, ⟨o3, e3, _, d3⟩⟩ := st
    have e' : e = z ∨ e = TI ∨ e = TO ∨ e = i1 ∨ e = i2 ∨ e = i3 := by simpa using he
    rcases e' with q | q | q | q | q | q
    · rw [q]; exact ⟨_, hz, fun v q => nomatch q⟩
    · rw [q]; exact ⟨_, hTI, fun v q => nomatch q⟩
    · rw [q]; exact ⟨_, hTO, fun v q => nomatch q⟩
    · rw [q]; exact ⟨o1, e1, fun v q => by rw [d1] at q; cases q⟩
    · rw [q]; exact ⟨o2, e2, fun v q => by rw [d2] at q; cases q⟩
    · rw [q]; exact ⟨o3, e3, fun v q => by rw [d3] at q; cases q⟩
  keep := fun i h h' st k => by
    obtain ⟨hz, hTI, ⟨x, y, u, hTO⟩, h1, h2, h3⟩ := st
    exact ⟨k z (by simp) _ hz, k TI (by simp) _ hTI, ⟨x, y, u, k TO (by simp) _ hTO⟩, h1.at fun o q => k i1 (by simp) o q, h2.at fun o q => k i2 (by simp) o q, h3.at fun o q => k i3 (by simp) o q⟩
  item := by
    intro X hP hw hK hc i pins s σ H E I hf st hg
    subst hP hw hK
    obtain ⟨hz, hTI, hTO, h1, h2, h3⟩ := st
    obtain ⟨xs, ys, zs, x, y, u, hqx, hqy, hqz, hx, hy, hu⟩ := hg
    obtain ⟨its1, rv1, p1, _⟩ := I.tuple hqx
    obtain ⟨its2, rv2, p2, _⟩ := I.tuple hqy
    obtain ⟨its3, rv3, p3, _⟩ := I.tuple hqz
    obtain ⟨v1, g1, r1⟩ := rv1.get hx
    obtain ⟨v2, g2, r2⟩ := rv2.get hy
    obtain ⟨v3, g3, r3⟩ := rv3.get hu
    have hh : X.A.in1.handled = none := I.ok.hd hc
    have G := GoesN.zip3 (prog := X.prog) (w := X.w) (A := X.A) (elts := elts) (x1 := kk) (pos := tpos) S (Draws.tuple hh i1 a na its1.toArray) (Draws.tuple hh i2 b nb its2.toArray) (Draws.tuple hh i3 c nc its3.toArray)
    have l1 := ltL g1
    have l2 := ltL g2
    have l3 := ltL g3
    refine G.goes i s (fun u s2 => ∃ x H', Inv X pins σ H' s2 ∧ RelV x u ∧ (ItZ3 X.K a b c).yld i H x H' ∧ _ ∧ ∀ b ∈ [z, TI, TO, i1, i2, i3], H' b = none) E (by simp; omega) ⟨hz, hTI, hTO, ⟨h1, p1⟩, ⟨h2, p2⟩, ⟨h3, p3⟩⟩ fun v h' tk hY st2 hk htk => ?_
    obtain ⟨T, w1, w2, w3, rfl, hT, q1, q2, q3, hI⟩ := hY
    obtain ⟨z', TI', TO', ⟨k1, _⟩, ⟨k2, _⟩, ⟨k3, _⟩⟩ := st2
    have e1 : w1 = v1 := by simpa [g1] using q1.symm
    have e2 : w2 = v2 := by simpa [g2] using q2.symm
    have e3 : w3 = v3 := by simpa [g3] using q3.symm
    subst e1 e2 e3
    have new : ObjOk X.prog X.w (upd H T (.tup [x, y, u])) h' T (.tup [x, y, u]) := ⟨by show 3 ≤ sizeLine; decide, [w1, w2, w3], .cons r1 (.cons r2 (.cons r3 .nil)), hI⟩
    have I1 := I.turnedNew (t' := tk) (ch := [z, TO, i1, i2, i3]) hk (fun b hb => hf b (by simp at hb ⊢; rcases hb with q | q | q | q | q <;> simp [q])) hT new
    refine ⟨.ref T, _, I1, rfl, ⟨T, x, y, u, rfl, I.hok.fresh hT, rfl, fun l hl => by rw [I.tuple_inj hl hqx]; exact hx, fun l hl => by rw [I.tuple_inj hl hqy]; exact hy, fun l hl => by rw [I.tuple_inj hl hqz]; exact hu⟩, ⟨z', TI', TO', k1, k2, k3⟩, fun e he => ?_⟩
    have hlt : e < s.heap.objs.size := by
      have e' : e = z ∨ e = TI ∨ e = TO ∨ e = i1 ∨ e = i2 ∨ e = i3 := by simpa using he
      obtain ⟨_, _, _, hTO'⟩ := hTO
      obtain ⟨_, f1, _⟩ := h1
      obtain ⟨_, f2, _⟩ := h2
      obtain ⟨_, f3, _⟩ := h3
      rcases e' with q | q | q | q | q | q
      · rw [q]; exact Heap.lt_size hz
      · rw [q]; exact Heap.lt_size hTI
      · rw [q]; exact Heap.lt_size hTO'
      · rw [q]; exact Heap.lt_size f1
      · rw [q]; exact Heap.lt_size f2
      · rw [q]; exact Heap.lt_size f3
    rw [upd_ne (Nat.ne_of_lt (Nat.lt_of_lt_of_le hlt hT))]
    exact (hf e he).1
  done := by
    intro X hP hw hK hc i pins s σ H E I hf st hg
    subst hP hw hK
    obtain ⟨hz, hTI, hTO, h1, h2, h3⟩ := st
    obtain ⟨xs, ys, zs, hqx, hqy, hqz, n1, n2, n3⟩ := hg
    obtain ⟨its1, rv1, p1, _⟩ := I.tuple hqx
    obtain ⟨its2, rv2, p2, _⟩ := I.tuple hqy
    obtain ⟨its3, rv3, p3, _⟩ := I.tuple hqz
    have l1 := rv1.length
    have l2 := rv2.length
    have l3 := rv3.length
    have hh : X.A.in1.handled = none := I.ok.hd hc
    have G := GoesN.zip3 (prog := X.prog) (w := X.w) (A := X.A) (elts := elts) (x1 := kk) (pos := tpos) S (Draws.tuple hh i1 a na its1.toArray) (Draws.tuple hh i2 b nb its2.toArray) (Draws.tuple hh i3 c nc its3.toArray)
    have en : min (min its1.toArray.size its2.toArray.size) its3.toArray.size = i := by simp; omega
    rw [en] at G
    exact G.stops s _ E ⟨hz, hTI, hTO, ⟨h1, p1⟩, ⟨h2, p2⟩, ⟨h3, p3⟩⟩ fun h' tk hk htk => I.turnedL (t' := tk) (ch := [z, TO, i1, i2, i3]) hk (fun b hb => hf b (by simp at hb ⊢; rcases hb with q | q | q | q | q <;> simp [q]))
  self := fun A i s Q E st h => wpAny_pyIter_zip st.1 h
def iZip3 (K : PySem.W.Frag) (ta : TA) : TI := fun σ H R => ta σ H fun vs H1 => ∃ a b c xs ys zs, vs = [.ref a, .ref b, .ref c] ∧ SqT K H1 a xs ∧ SqT K H1 b ys ∧ SqT K H1 c zs ∧ R (ItZ3 K a b c) H1
theorem pi_zip3 {X : Cx} {e e2 e3 : Expr} {ta : TA} {p pos tpos : Pos} {elts : List Expr} {kk : Nat} (hg : Gl X "zip") (hm : X.mg "zip" = none) (ha : PA X [e, e2, e3] ta)
    (hs : starEach [e, e2, e3] X.env = (false, eval e X.env) :: starEach [e2, e3] X.env := by rfl) (hpl : (backTo pos (starEach [e2, e3] X.env)).any (·.1) = false := by rfl) : PI X (.Tuple elts kk tpos) (.Call (.Name "zip" p) [e, e2, e3] [] pos) (iZip3 X.K ta) := by
  refine ⟨fun pins s σ H R I h => ?_⟩
  refine Call_ (ld_blt I hg hm PyProof.Rows.boot_zip (PyProof.Rows.callWith_type1 (thn (ha.run pos pins s σ H _ I h) fun us s1 ⟨vs, H1, I1, r1, q1⟩ => ?_) hs hpl))
  obtain ⟨a, b, c, xs, ys, zs, rfl, hqx, hqy, hqz, q⟩ := q1
  cases r1 with
  | cons r rr =>
    cases rr with
    | cons r' rr =>
      cases rr with
      | cons r'' rr =>
        cases rr
        cases r
        cases r'
        cases r''
        obtain ⟨its1, rv1, p1, _⟩ := I1.tuple hqx
        obtain ⟨its2, rv2, p2, _⟩ := I1.tuple hqy
        obtain ⟨its3, rv3, p3, _⟩ := I1.tuple hqz
        obtain ⟨o1, ho1, _⟩ := id p1
        obtain ⟨o2, ho2, _⟩ := id p2
        obtain ⟨o3, ho3, _⟩ := id p3
        have la := Heap.lt_size ho1
        have lb := Heap.lt_size ho2
        have lc := Heap.lt_size ho3
        generalize hN : s1.heap.objs.size = N at la lb lc
        refine zip_begins3 (begins_tuple a its1.toArray) (begins_tuple b its2.toArray) (begins_tuple c its3.toArray) p1 p2 p3 fun h' hz hTI hTO g1 g2 g3 hsz hk => wpAny_pyIter_zip hz ?_
        rw [hN] at hz hTI hTO g1 g2 g3 ⊢
        have I2 : Inv X pins σ H1 { s1 with heap := h' } := I1.kept (t' := s1.toks) hk
        have S : ZipSep3 (N + 5) (N + 3) (N + 4) N (N + 1) (N + 2) [N, a] [N + 1, b] [N + 2, c] := zip_sep3 (fun d hd => by rw [List.mem_singleton.mp hd]; exact la) (fun d hd => by rw [List.mem_singleton.mp hd]; exact lb) (fun d hd => by rw [List.mem_singleton.mp hd]; exact lc)
        refine ⟨N + 5, [N + 5, N + 3, N + 4, N, N + 1, N + 2], _, _, H1, rfl, I2, turn_zip3 S (Nat.ne_of_lt la) (Nat.ne_of_lt (Nat.lt_succ_of_lt lb)) (Nat.ne_of_lt (Nat.lt_succ_of_lt (Nat.lt_succ_of_lt lc))), ⟨hz, hTI, ⟨_, _, _, hTO⟩, ⟨_, g1, rfl, rfl⟩, ⟨_, g2, rfl, rfl⟩, ⟨_, g3, rfl, rfl⟩⟩, fun d hd => ?_, q⟩
        have hle : s1.heap.objs.size ≤ d := by
          have e' : d = N + 5 ∨ d = N + 3 ∨ d = N + 4 ∨ d = N ∨ d = N + 1 ∨ d = N + 2 := by simpa using hd
          rw [hN]
          rcases e' with z | z | z | z | z | z
          · rw [z]; exact Nat.le_add_right _ _
          · rw [z]; exact Nat.le_add_right _ _
          · rw [z]; exact Nat.le_add_right _ _
          · rw [z]; exact Nat.le_refl _
          · rw [z]; exact Nat.le_add_right _ _
          · rw [z]; exact Nat.le_add_right _ _
        exact ⟨(I1.fpOk hle (I1.hok.fresh hle)).1, (I1.fpOk hle (I1.hok.fresh hle)).2⟩
/-- a new triple -/
def YTrip (xs ys zs : List V) : Nat → Hp → V → Hp → Prop := fun i H v H' => ∃ T x y z, v = .ref T ∧ H T = none ∧ H' = upd H T (.tup [x, y, z]) ∧ xs[i]? = some x ∧ ys[i]? = some y ∧ zs[i]? = some z
theorem walk_zip3 {K : PySem.W.Frag} {a b c : Addr} {xs ys zs : List V} (h1 : ys.length = xs.length) (h2 : zs.length = xs.length) : Walk (ItZ3 K a b c) xs.length (fun H => SqT K H a xs ∧ SqT K H b ys ∧ SqT K H c zs) (YTrip xs ys zs) := by
  refine ⟨fun i H hi q => ?_, fun H q => ⟨xs, ys, zs, q.1, q.2.1, q.2.2, rfl, h1, h2⟩, fun i H v H' _ q y => ?_⟩
  · exact ⟨xs, ys, zs, xs[i], ys[i]'(by omega), zs[i]'(by omega), q.1, q.2.1, q.2.2, List.getElem?_eq_getElem _, List.getElem?_eq_getElem _, List.getElem?_eq_getElem _⟩
  · obtain ⟨T, x, y, z, e1, e2, e3, e4, e5, e6⟩ := y
    exact ⟨T, x, y, z, e1, e2, e3, e4 _ q.1, e5 _ q.2.1, e6 _ q.2.2⟩
end K45

/-! The law's pairing. -/
namespace K45
open PySem PySem.Spec PyProof.Rows L2
theorem pair_sm : ∀ r ∈ RR, ∀ x ∈ placesL r, ∀ y ∈ placesL r, ((List.range r.length).map fun k => x.getD k 0 * y.getD k 0 * (ordL r / r.getD k 0)).sum % ordL r = pairL r (ordL r) x y := by decide +kernel
theorem pl_60 : ∀ r ∈ RR, ∀ p ∈ placesL r, ∀ x ∈ p, 0 ≤ x ∧ x < 60 := by decide +kernel
section
variable {P : Program} {w : World} {K : PySem.W.Frag} {mg : Str → Option Value} {base : Heap} {f f1 f2 f3 f4 f5 : Addr} {fd fd1 fd2 fd3 fd4 fd5 : FuncData}
def spLPr (K : PySem.W.Frag) : Sp := fun vs H Q _ => ∃ (v u z : V) (r p q : List Int), vs = [v, .int (ordL r), u, z] ∧ TupI K H v r ∧ TupI K H u p ∧ TupI K H z q ∧ r ∈ RR ∧ p ∈ placesL r ∧ q ∈ placesL r ∧ ∀ H', Same H H' → Q (.int (pairL r (ordL r) p q)) H'
abbrev prN' : List Str := ["rings", "e", "place", "label", "x", "k", "size"]
theorem scLPr : FnScope prN' ["rings", "e", "place", "label"] (defScope sLPairing) := ⟨rfl, rfl, rfl, by decide +kernel, rfl, by decide +kernel, by decide +kernel⟩
theorem ok_lPr (F : FnP K "_law_pairing" sLPairing f fd) (B : Bl mg) : FnOk P w K mg base CX0 1 f fd ["rings", "e", "place", "label"] (spLPr K) := by
  refine F.ok scLPr (fun vs H Q E h => ?_) (fun cdv A outer s H vs Q E hr h => ?_)
  · obtain ⟨v, u, z, r, p, q, rfl, _⟩ := h
    rfl
  · obtain ⟨v, u, z, r, p, q, rfl, ⟨a, rfl, ha⟩, ⟨b, rfl, hb⟩, ⟨c, rfl, hc⟩, h14, hp, hq, k⟩ := h
    refine ⟨_, PSs.nox (pss_one (ps_ret (pe_op op_mod (pe_callTy call_int1 (by rfl) (B "int" (by decide +kernel)) (by decide +kernel) (pa_cons (pe_callB (cr_sum rfl) (by rfl) (B "sum" (by decide +kernel)) (by decide +kernel) (pa_cons
      (pe_lc (own := [("x", 4), ("k", 5), ("size", 6)]) (g := gTup K 3 (gCons (gName 4) (gCons (gName 5) (gCons (gName 6) gNil)))) (tt := tYes) (te := tOp rMul (tOp rMul (tVar 4) (tVar 5)) (tOp rFdv (tVar 1) (tVar 6))) rfl scLPr.nd (pi_zip3 (by rfl) (B "zip" (by decide +kernel)) (pa_cons (pv 2) (pa_cons (pv 3) (pa_cons (pv 0) pa_nil))))
        (blkOk_by (own := [("x", 4), ("k", 5), ("size", 6)]) (N := prN') (sc := defScope sLPairing) (by decide +kernel))
        (fun _ _ _ _ _ => pg_tup rfl (pgs_cons (pg_name (i := 4) scLPr.nd rfl (Or.inl rfl)) (pgs_cons (pg_name (i := 5) scLPr.nd rfl (Or.inl rfl)) (pgs_cons (pg_name (i := 6) scLPr.nd rfl (Or.inl rfl)) pgs_nil)))) (fun _ _ _ _ _ => pts_nil)
        (fun _ _ _ _ _ => pe_op op_mul (pe_op op_mul (pv 4) (pv 5)) (pe_op op_fdiv (pv 1) (pv 6)))) pa_nil)) pa_nil)) (pv 1)))), ?_⟩
    have hn := rr_len r h14
    have eb := er_bd _ (er_in r h14)
    have hl := rr_whole h14 hp
    have hl2 := rr_whole h14 hq
    refine ⟨_, rfl, _, rfl, _, rfl, b, c, a, _, _, _, rfl, hb, hc, ha, fun D hD => ?_⟩
    refine lc_it (walk_zip3 (K := K) (a := b) (b := c) (c := a) (xs := p.map V.int) (ys := q.map V.int) (zs := r.map V.int) (by rw [List.length_map, List.length_map, hl, hl2]) (by rw [List.length_map, List.length_map, hl])) (fun i H2 => Same H H2 ∧ H2 D = some (.lst (((List.range i).map fun k => p.getD k 0 * q.getD k 0 * (ordL r / r.getD k 0)).map V.int))) ⟨same_upd hD, by rw [upd_same]; rfl⟩ (fun i H2 _ ⟨s2, _⟩ => ⟨s2.tup hb, s2.tup hc, s2.tup ha⟩) ?_ ?_
    · rintro i x H2 H3 hi ⟨s2, h2⟩ ⟨T, x1, x2, x3, rfl, hT, rfl, e1, e2, e3⟩
      obtain ⟨x, rfl, hx⟩ := getI e1
      obtain ⟨y, rfl, hy⟩ := getI e2
      obtain ⟨n, rfl, hn'⟩ := getI e3
      rw [List.length_map] at hi
      have nb := rr_pos r h14 n (List.mem_of_getElem? hn')
      have s3 : Same H2 (upd H2 T (.tup [.int x, .int y, .int n])) := same_upd hT
      refine ⟨T, _, rfl, SqT.of upd_same, rfl, _, _, rfl, _, _, rfl, _, _, rfl, rfl, ?_⟩
      have gx : p.getD i 0 = x := by rw [List.getD_eq_getElem?_getD, hx]; rfl
      have gy : q.getD i 0 = y := by rw [List.getD_eq_getElem?_getD, hy]; rfl
      have gn : r.getD i 0 = n := by rw [List.getD_eq_getElem?_getD, hn']; rfl
      have xb := pl_60 r h14 p hp x (List.mem_of_getElem? hx)
      have yb := pl_60 r h14 q hq y (List.mem_of_getElem? hy)
      have q1 : 0 ≤ ordL r / n := Int.ediv_nonneg (by omega) (by omega)
      have q2 : ordL r / n ≤ ordL r := Int.ediv_le_self _ (by omega)
      refine ⟨rfl, _, rfl, _, rfl, _, _, rfl, rfl, Or.inl ⟨by omega, by omega⟩, _, rfl, _, rfl, _, _, rfl, rfl, ⟨by omega, by omega⟩, _, _, rfl, rfl, Or.inr ⟨by omega, by omega⟩, ?_⟩
      refine ⟨_, s3 _ _ h2, sl_lt (by rw [List.length_map, List.length_map, List.length_range]; omega), same_at (s2.trans s3) hD, ?_⟩
      rw [upd_same, List.range_succ, List.map_append, List.map_append]
      show _ = some (HO.lst (_ ++ [V.int (p.getD i 0 * q.getD i 0 * (ordL r / r.getD i 0))]))
      rw [gx, gy, gn]
    · rintro H2 ⟨s2, h2⟩
      rw [List.length_map, hl] at h2
      refine ⟨D, _, rfl, SqL.of h2, Or.inl ⟨_, rfl, _, rfl, _, _, rfl, rfl, (by show (0 : Int) < ordL r; omega), ?_⟩⟩
      have g := k H2 s2
      rw [← pair_sm r h14 p hp q hq] at g
      exact g
end
end K45

/-! dict(zip(a, b)) of any two that are drawn from, places as keys. -/
namespace K45
open PySem PySem.Spec PyProof.Rows L2
section
variable {prog : Program} {w : World} {A : Around} {E : Value → Shared → Prop} {s : Shared} {z TI TO i1 i2 : Addr} {fp1 fp2 : List Addr} {n1 n2 i : Nat} {P1 P2 : Nat → Value → Prop} {St1 St2 : Nat → Heap → Prop}
/-- the next pair of a zip whose last tuple is still out -/
theorem zd_item {T : Addr} {f : Bool} {oT : Obj} {Q : Value → Shared → Prop} (S : ZipSep2 z TI TO i1 i2 fp1 fp2) (D1 : Draws prog w A i1 fp1 n1 P1 St1) (D2 : Draws prog w A i2 fp2 n2 P2 St2)
    (hz : IsZipHeld s.heap z TI TO T f) (hT : s.heap.get? T = some oT) (hTI : IsTupOf2 s.heap TI (.ref i1) (.ref i2)) (s1 : St1 i s.heap) (s2 : St2 i s.heap) (g1 : i < n1) (g2 : i < n2)
    (hQ : ∀ x y h' tk, P1 i x → P2 i y → IsZipHeld h' z TI TO T true → St1 (i + 1) h' → St2 (i + 1) h' → IsTupOf2 h' s.heap.objs.size x y → (∀ c o, c ≠ z → c ≠ i1 → c ≠ i2 → s.heap.get? c = some o → h'.get? c = some o) → Q (.ref s.heap.objs.size) { s with heap := h', toks := tk }) :
    wpAny (model prog w) A (Builtin.«zip.__next__» ⟨[.ref z], []⟩) (fun r s' => ∃ v, r = .done (.ret v) ∧ Q v s') E s := by
  show wpAny _ _ (field (.ref z) 2 >>= _) _ _ _
  refine wpAny_bind (wpAny_field hz rfl (x := .bool false) rfl ?_); show wpAny _ _ (field (.ref z) 3 >>= _) _ _ _
  refine wpAny_bind (wpAny_field hz rfl (x := .ref TI) rfl ?_); refine wpAny_bind (wpAny_seqItems hTI rfl ?_)
  show wpAny _ _ (Builtin.SmallTypes.ownedTupleIsFree (.ref z) >>= _) _ _ _
  refine wpAny_bind (wpAny_tupleHeld_zip hz hT fun ha za ka => ?_)
  simp only [Bool.false_eq_true, if_false]; refine wpAny_bind ?_; rw [← Array.forIn_toList]; simp only [List.forIn_cons, List.forIn_nil]
  refine wpAny_bind (wpAny_bind (wpAny_holding ?_)); show wpAny _ _ (Builtin.SmallTypes.nextOf (.ref i1) >>= _) _ _ _
  refine wpAny_bind (D1.item i { s with heap := ha } _ _ g1 (D1.over s1 ka S.zf1) fun x hb tb px sb kb => wpAny_pure ?_); refine wpAny_pure ?_
  refine wpAny_bind (wpAny_bind (wpAny_holding ?_)); show wpAny _ _ (Builtin.SmallTypes.nextOf (.ref i2) >>= _) _ _ _
  refine wpAny_bind (D2.item i { s with heap := hb, toks := tb } _ _ g2 (D2.over (D2.over s2 ka S.zf2) kb S.sep1_2) fun y hc tc py sc kc => wpAny_pure ?_); refine wpAny_pure (wpAny_pure ?_)
  show wpAny _ _ (newTuple [x, y] >>= _) _ _ _
  refine wpAny_bind (wpAny_newTuple ?_)
  have sz : hc.objs.size = s.heap.objs.size := by rw [kc.1, kb.1, ka.1]
  have zc : IsZipHeld hc z TI TO T true := kc.extBut _ _ S.zi2 (kb.extBut _ _ S.zi1 za)
  have kp : ∀ c o, c ≠ z → c ≠ i1 → c ≠ i2 → s.heap.get? c = some o → hc.get? c = some o := fun c o c1 c2 c3 e => kc.extBut _ _ c3 (kb.extBut _ _ c2 (ka.extBut _ _ c1 e))
  have s1c := D1.over sb kc S.sep2_1
  have pu : ∀ c o, hc.get? c = some o → (hc.push { cls := .type "tuple", data := .seq #[x, y] }).get? c = some o := fun c o e => Heap.get?_push_of_some _ e
  have tp : IsTupOf2 (hc.push { cls := .type "tuple", data := .seq #[x, y] }) hc.objs.size x y := Heap.get?_push_size _ rfl
  refine wpAny_pure ⟨_, rfl, ?_⟩
  show Q (.ref hc.objs.size) _
  rw [sz] at tp ⊢
  exact hQ x y _ tc px py (pu _ _ zc) (D1.frame _ _ _ s1c fun b _ o e => pu _ _ e) (D2.frame _ _ _ sc fun b _ o e => pu _ _ e) tp fun c o c1 c2 c3 e => pu _ _ (kp c o c1 c2 c3 e)
/-- its end -/
theorem zd_end {T : Addr} {f : Bool} {oT : Obj} {Q : Fin → Shared → Prop} (S : ZipSep2 z TI TO i1 i2 fp1 fp2) (D1 : Draws prog w A i1 fp1 n1 P1 St1)
    (hz : IsZipHeld s.heap z TI TO T f) (hT : s.heap.get? T = some oT) (hTI : IsTupOf2 s.heap TI (.ref i1) (.ref i2)) (s1 : St1 n1 s.heap)
    (hE : ∀ h' e, (∀ c o, c ≠ z → c ≠ i1 → s.heap.get? c = some o → h'.get? c = some o) → (∃ o, h'.get? e = some o ∧ o.cls = .type "StopIteration") → E (.ref e) { s with heap := h' }) :
    wpAny (model prog w) A (Builtin.«zip.__next__» ⟨[.ref z], []⟩) Q E s := by
  show wpAny _ _ (field (.ref z) 2 >>= _) _ _ _
  refine wpAny_bind (wpAny_field hz rfl (x := .bool false) rfl ?_); show wpAny _ _ (field (.ref z) 3 >>= _) _ _ _
  refine wpAny_bind (wpAny_field hz rfl (x := .ref TI) rfl ?_); refine wpAny_bind (wpAny_seqItems hTI rfl ?_)
  show wpAny _ _ (Builtin.SmallTypes.ownedTupleIsFree (.ref z) >>= _) _ _ _
  refine wpAny_bind (wpAny_tupleHeld_zip hz hT fun ha za ka => ?_)
  simp only [Bool.false_eq_true, if_false]; refine wpAny_bind ?_; rw [← Array.forIn_toList]; simp only [List.forIn_cons, List.forIn_nil]
  refine wpAny_bind (wpAny_bind (wpAny_holding ?_)); show wpAny _ _ (Builtin.SmallTypes.nextOf (.ref i1) >>= _) _ _ _
  refine wpAny_bind (D1.done { s with heap := ha } _ _ (D1.over s1 ka S.zf1) fun h2 e k2 he => ?_)
  exact hE h2 e (fun c o c1 c2 q => k2 _ _ c2 (ka.extBut _ _ c1 q)) he
end
section
variable {prog : Program} {w : World}
/-- a zip of a list and a tuple as what dict() takes -/
theorem zd_arg {z TI TO i1 i2 a b : Addr} (S : ZipSep2 z TI TO i1 i2 [i1, a] [i2, b]) (na : a ≠ i1) (nb : b ≠ i2) (xs ys : Array Value) (hl : xs.size = ys.size) :
    PairArg prog w "zip" z [z, TI, TO, i1, i2, a, b] [z, TO, i1, i2] xs.size (fun i k v => xs[i]? = some k ∧ ys[i]? = some v)
      (fun h => IsZip h z TI TO .none ∧ IsTupOf2 h TI (.ref i1) (.ref i2) ∧ (∃ u v, IsTupOf2 h TO u v) ∧ (h.IsListIter i1 a 0 ∧ h.IsList a xs) ∧ h.IsTupleIter i2 b 0 ∧ h.IsTuple b ys) where
  type := fun _ ok => ⟨_, ok.1, rfl⟩
  notDict := by decide
  keep := fun _ _ ⟨q1, q2, ⟨u, v, q3⟩, ⟨q4, q5⟩, q6, q7⟩ hk => ⟨hk _ _ q1, hk _ _ q2, ⟨u, v, hk _ _ q3⟩, ⟨q4.at fun o e => hk _ o e, q5.at fun o e => hk _ o e⟩, q6.at fun o e => hk _ o e, q7.at fun o e => hk _ o e⟩
  there := fun h ⟨q1, q2, ⟨u, v, q3⟩, ⟨⟨o1, e1, _⟩, ⟨o2, e2, _⟩⟩, ⟨o3, e3, _⟩, ⟨o4, e4, _⟩⟩ c hc => by
    simp only [List.mem_cons, List.not_mem_nil, or_false] at hc
    rcases hc with e | e | e | e | e | e | e
    · exact e ▸ ⟨_, q1⟩
    · exact e ▸ ⟨_, q2⟩
    · exact e ▸ ⟨_, q3⟩
    · exact e ▸ ⟨_, e1⟩
    · exact e ▸ ⟨_, e3⟩
    · exact e ▸ ⟨_, e2⟩
    · exact e ▸ ⟨_, e4⟩
  sub := fun c hc => by
    simp only [List.mem_cons, List.not_mem_nil, or_false] at hc ⊢
    rcases hc with e | e | e | e <;> simp [e]
  noKeys := fun _ _ _ _ hA ok h => getAttrOr_miss_zip ok.1 rfl rfl rfl zip_no_keys (by decide +kernel) hA h
  iter := fun A s d Q E hA ⟨q1, q2, ⟨u, v, q3⟩, q4, q5⟩ hd hdf h => by
    simp only [List.mem_cons, List.not_mem_nil, or_false, not_or] at hdf
    obtain ⟨dz, dTI, dTO, d1, d2, da, db⟩ := hdf
    have D1 : Draws prog w A.in1 i1 [i1, a] xs.size _ _ := Draws.list (show A.in1.handled = none from hA) i1 a na xs
    have D2 : Draws prog w A.in1 i2 [i2, b] ys.size _ _ := Draws.tuple (show A.in1.handled = none from hA) i2 b nb ys
    refine wpAny_pyIter_zip q1 (h z [z, TO, i1, i2] (fun i h => IsTupOf2 h TI (.ref i1) (.ref i2) ∧ (h.IsListIter i1 a i ∧ h.IsList a xs) ∧ (h.IsTupleIter i2 b i ∧ h.IsTuple b ys) ∧
      ((IsZip h z TI TO .none ∧ ∃ u v, IsTupOf2 h TO u v) ∨ ∃ T f oT, IsZipHeld h z TI TO T f ∧ h.get? T = some oT ∧ T ≠ z ∧ T ≠ i1 ∧ T ≠ i2 ∧ T ≠ d)) s.heap s.toks ?_ ⟨q2, q4, q5, .inl ⟨q1, u, v, q3⟩⟩ (fun _ _ e => e) fun c hc => .inl hc)
    refine ⟨?_, ?_, ?_, ?_⟩
    · simp only [List.mem_cons, List.not_mem_nil, or_false, not_or]
      exact ⟨dz, dTO, d1, d2⟩
    · rintro i h1 h2 ⟨r2, ⟨r4, r5⟩, ⟨r6, r7⟩, r8⟩ hk
      refine ⟨hk _ _ (Ne.symm dTI) r2, ⟨r4.at fun o e => hk _ o (Ne.symm d1) e, r5.at fun o e => hk _ o (Ne.symm da) e⟩, ⟨r6.at fun o e => hk _ o (Ne.symm d2) e, r7.at fun o e => hk _ o (Ne.symm db) e⟩, ?_⟩
      rcases r8 with ⟨r1, u, v, r3⟩ | ⟨T, f, oT, r1, rT, c1, c2, c3, c4⟩
      · exact .inl ⟨hk _ _ (Ne.symm dz) r1, u, v, hk _ _ (Ne.symm dTO) r3⟩
      · exact .inr ⟨T, f, oT, hk _ _ (Ne.symm dz) r1, hk _ _ c4 rT, c1, c2, c3, c4⟩
    · rintro i s1 Q1 E1 hi ⟨r2, r4, r6, r8⟩ ds hQ
      have off : ∀ {c : Addr}, c ∉ [z, TO, i1, i2] → c ≠ z ∧ c ≠ TO ∧ c ≠ i1 ∧ c ≠ i2 := fun hc => by simpa using hc
      rcases r8 with ⟨r1, u, v, r3⟩ | ⟨T, f, oT, r1, rT, c1, c2, c3, c4⟩
      · refine (WalksT.zipD2 S D1 D2).item i s1 Q1 E1 (by omega) ⟨r1, r2, ⟨u, v, r3⟩, r4, r6⟩ fun T vals h' tk hp hle ht hm hk => ?_
        obtain ⟨x1, x2, p1, p2, rfl⟩ := hp
        obtain ⟨m1, m2, m3, m4, m5, m6, m7, m8, m9⟩ := hm
        obtain ⟨oT, hoT, _⟩ := id ht
        exact hQ T x1 x2 h' tk ⟨p1, p2⟩ (.inl ht) ⟨m2, m4, m5, .inr ⟨T, false, oT, m1, hoT, m6, m8, m9, fun e => Nat.lt_irrefl _ (Nat.lt_of_lt_of_le ds (e ▸ hle))⟩⟩ hk
      · have hTy : s1.TypeIs (.ref z) "zip" := ⟨_, r1, rfl⟩
        unfold pyNext
        refine wpAny_bind (wpAny_attempt (wpAny_callSpecial?_slot (name := Str.ofString "__next__") hTy F.slot_zip_next (wpAny_call_entry F.slot_zip_next hTy F.entry_zip_next
          (zd_item S D1 D2 r1 rT r2 r4 r6 hi (by omega) fun x y h' tk p1 p2 k1 k2 k3 k4 hk => wpAny_pure ?_) (F.args_zip_next_1 _))))
        have lt : ∀ {c o}, s1.heap.get? c = some o → s1.heap.objs.size ≠ c := fun e => Nat.ne_of_gt (Heap.lt_size e)
        obtain ⟨_, g1⟩ := D1.live _ _ r4
        obtain ⟨_, g2⟩ := D2.live _ _ r6
        refine hQ s1.heap.objs.size x y h' tk ⟨p1, p2⟩ (.inl ⟨_, k4, rfl, _, rfl⟩) ⟨hk _ _ S.TIz S.TIi1 S.TIi2 r2, k2, k3, .inr ⟨T, true, oT, k1, hk _ _ c1 c2 c3 rT, c1, c2, c3, c4⟩⟩ fun c o hc e => ?_
        obtain ⟨n1, n2, n3, n4⟩ := off hc
        exact hk c o n1 n3 n4 e
    · rintro s1 Q1 E1 ⟨r2, r4, r6, r8⟩ hQ
      have off : ∀ {c : Addr}, c ∉ [z, TO, i1, i2] → c ≠ z ∧ c ≠ TO ∧ c ≠ i1 ∧ c ≠ i2 := fun hc => by simpa using hc
      rcases r8 with ⟨r1, u, v, r3⟩ | ⟨T, f, oT, r1, rT, c1, c2, c3, c4⟩
      · have en : min xs.size ys.size = xs.size := by omega
        refine (WalksT.zipD2 S D1 D2).done s1 Q1 E1 ?_ hQ
        rw [en]
        exact ⟨r1, r2, ⟨u, v, r3⟩, r4, r6⟩
      · have hTy : s1.TypeIs (.ref z) "zip" := ⟨_, r1, rfl⟩
        unfold pyNext
        refine wpAny_bind (wpAny_attempt (wpAny_callSpecial?_slot (name := Str.ofString "__next__") hTy F.slot_zip_next (wpAny_call_entry F.slot_zip_next hTy F.entry_zip_next
          (zd_end S D1 r1 rT r2 r4 fun h' e hk he => ?_) (F.args_zip_next_1 _))))
        obtain ⟨o, ho, hc⟩ := he
        refine wpAny_bind (wpAny_isInstance (T := "StopIteration") (b := true) ⟨o, ho, hc⟩ isSubtype_stop ?_)
        refine wpAny_pure (hQ h' _ fun c o hc e => ?_)
        obtain ⟨n1, n2, n3, n4⟩ := off hc
        exact hk c o n1 n3 e
end
end K45

/-! dict(zip(places, items)) as an expression. -/
namespace K45
open PySem PySem.Spec PyProof.Rows L2
/-- the entries of such a dict as they stand -/
def entsZ (ks : List (Addr × List Int)) (us : List Value) : List (List L2.Key × Addr × Value) := (ks.zip us).map fun q => (kT q.1.2, q.1.1, q.2)
theorem entsZ_len {ks : List (Addr × List Int)} {us : List Value} (h : ks.length = us.length) : (entsZ ks us).length = ks.length := by
  unfold entsZ
  rw [List.length_map, List.length_zip]
  omega
theorem entsZ_keys : ∀ {ks : List (Addr × List Int)} {us : List Value}, ks.length = us.length → (entsZ ks us).map (·.1) = ks.map fun q => kT q.2
  | [], us, _ => by simp [entsZ]
  | k :: ks, [], h => by simp at h
  | k :: ks, u :: us, h => by
    show kT k.2 :: (entsZ ks us).map (·.1) = _
    rw [entsZ_keys (by simpa using h)]
    rfl
theorem entsZ_kt {H : Hp} : ∀ {ks : List (Addr × List Int)} {ys : List V} {us : List Value}, (∀ q ∈ ks, H q.1 = some (.tup (q.2.map V.int))) → Vals ys us → ks.length = ys.length → KT H (tabK (ks.map (·.2)) ys) (entsZ ks us)
  | [], ys, us, _, r, h => by
    cases r with
    | nil => exact .nil
    | cons _ _ => simp at h
  | k :: ks, ys, us, hk, r, h => by
    cases r with
    | nil => simp at h
    | cons r0 r1 => exact .cons ⟨rfl, by rw [kT_V]; exact hk k List.mem_cons_self, r0⟩ (entsZ_kt (fun q hq => hk q (List.mem_cons_of_mem _ hq)) r1 (by simpa using h))
theorem nd_kT : ∀ {l : List (List Int)}, l.Nodup → (l.map kT).Nodup
  | [], _ => List.nodup_nil
  | x :: l, h => by
    rw [List.nodup_cons] at h
    rw [List.map_cons, List.nodup_cons]
    refine ⟨fun z => ?_, nd_kT h.2⟩
    obtain ⟨y, hy, e⟩ := List.mem_map.mp z
    exact h.1 (kT_inj e ▸ hy)
def tDZ (K : PySem.W.Frag) (ta : TA) : TE := fun σ H Q => ta σ H fun vs H1 => ∃ (a b : Addr) (ks : List (Addr × List Int)) (ys : List V), vs = [.ref a, .ref b] ∧ SqL K H1 a (rf ks) ∧ SqT K H1 b ys ∧ TP K H1 ks ∧ ks.length = ys.length ∧ (ks.map (·.2)).Nodup ∧ ∀ D, H1 D = none → Q (.ref D) (upd H1 D (.dT (tabK (ks.map (·.2)) ys)))
theorem pe_dictZip {X : Cx} {e e2 : Expr} {ta : TA} {p p2 pos pos2 : Pos} (hc : X.calm = true) (hu : X.A.units + 64 < cLine) (hg1 : Gl X "dict") (hm1 : X.mg "dict" = none) (hg2 : Gl X "zip") (hm2 : X.mg "zip" = none) (ha : PA X [e, e2] ta)
    (hs : starEach [e, e2] X.env = (false, eval e X.env) :: starEach [e2] X.env := by rfl) (hpl : (backTo pos2 (starEach [e2] X.env)).any (·.1) = false := by rfl)
    (hs2 : starEach [.Call (.Name "zip" p2) [e, e2] [] pos2] X.env = (false, eval (.Call (.Name "zip" p2) [e, e2] [] pos2) X.env) :: starEach [] X.env := by rfl) :
    PE X (.Call (.Name "dict" p) [.Call (.Name "zip" p2) [e, e2] [] pos2] [] pos) (tDZ X.K ta) := by
  refine ⟨fun pins s σ H Q I h => ?_⟩
  refine wpAny_Call_Name_kw (ld_blt I hg1 hm1 PyProof.Rows.boot_dict ?_ (by decide) (by decide))
  refine PyProof.Rows.callWith_type1 ?_ hs2 (by rfl)
  rw [hs2]
  refine Calls.spliced_cons ?_
  refine wpAny_Call_Name_kw (ld_blt I hg2 hm2 PyProof.Rows.boot_zip ?_ (by decide) (by decide))
  refine PyProof.Rows.callWith_type1 (thn (ha.run pos2 pins s σ H _ I h) fun us s1 ⟨vs, H1, I1, r1, q1⟩ => ?_) hs hpl
  obtain ⟨a, b, ks, ys, rfl, hqx, hqy, tk, hl, nd, q⟩ := q1
  cases r1 with
  | cons r rr =>
    cases rr with
    | cons r' rr =>
      cases rr
      cases r
      cases r'
      obtain ⟨its1, rv1, p1, z1⟩ := I1.list hqx
      obtain ⟨its2, rv2, pt2, z2⟩ := I1.tuple hqy
      obtain ⟨o1, ho1, _⟩ := id p1.isList
      obtain ⟨o2, ho2, _⟩ := id pt2
      have la := Heap.lt_size ho1
      have lb := Heap.lt_size ho2
      have l1 : its1.length = ks.length := by rw [← rv1.length, List.length_map]
      have l2 : its2.length = ks.length := by rw [← rv2.length, hl]
      generalize hN : s1.heap.objs.size = N at la lb
      refine zip_begins2 (begins_list a its1.toArray) (begins_tuple b its2.toArray) p1.isList pt2 fun h' hz hTI hTO g1 g2 hsz hk => Calls.spliced_nil ?_
      rw [hN] at hz hTI hTO g1 g2 hsz ⊢
      have S : ZipSep2 (N + 4) (N + 2) (N + 3) N (N + 1) [N, a] [N + 1, b] := zip_sep2 (fun d hd => by rw [List.mem_singleton.mp hd]; exact la) (fun d hd => by rw [List.mem_singleton.mp hd]; exact lb)
      have I2 : Inv X pins σ H1 { s1 with heap := h' } := I1.kept (t' := s1.toks) hk
      have kl : ∀ {c o}, s1.heap.get? c = some o → c < N := fun e => by rw [← hN]; exact Heap.lt_size e
      have off : ∀ {c : Addr}, c < N → c ∉ [N + 4, N + 3, N, N + 1] := fun hc => by
        simp only [List.mem_cons, List.not_mem_nil, or_false, not_or]
        exact ⟨Nat.ne_of_lt (Nat.lt_of_lt_of_le hc (Nat.le_add_right _ _)), Nat.ne_of_lt (Nat.lt_of_lt_of_le hc (Nat.le_add_right _ _)), Nat.ne_of_lt hc, Nat.ne_of_lt (Nat.lt_succ_of_lt hc)⟩
      have ndk : ((entsZ ks its2).map (·.1)).Nodup := by
        rw [entsZ_keys (by omega)]
        have := nd_kT nd
        rw [List.map_map] at this
        exact this
      refine call_dict_pairsH (knd := tupleKind (mixKind X.prog X.w)) (ps := entsZ ks its2) (zd_arg (prog := X.prog) (w := X.w) S (Nat.ne_of_lt la) (Nat.ne_of_lt (Nat.lt_succ_of_lt lb)) its1.toArray its2.toArray (by simp; omega)) (I.ok.hd hc) ?_
        ⟨hz, hTI, ⟨_, _, hTO⟩, ⟨⟨_, g1, rfl, rfl⟩, p1.isList.at fun o e => hk _ _ e⟩, ⟨_, g2, rfl, rfl⟩, (show h'.IsTuple b its2.toArray from (let ⟨o, e, q⟩ := pt2; ⟨o, hk _ _ e, q⟩))⟩ ⟨by rw [entsZ_len (by omega)]; simp; omega, ?_⟩ ?_ ?_ fun h2 tk2 hd2 hk2 => ?_
      · show X.A.in1.in1.units < cLine
        exact Nat.lt_of_le_of_lt (Nat.add_le_add_left (by decide : 2 ≤ 64) X.A.units) hu
      · rintro i key v ⟨e1, e2⟩
        have ei : its1 = (ks.map (·.1)).map Value.ref := refs_at (by rw [List.map_map]; exact rv1)
        have e1' : its1[i]? = some key := by simpa using e1
        have e2' : its2[i]? = some v := by simpa using e2
        rw [ei, List.getElem?_map, List.getElem?_map] at e1'
        cases hki : ks[i]? with
        | none =>
          rw [hki] at e1'
          cases e1'
        | some kk =>
          rw [hki] at e1'
          refine ⟨kT kk.2, kk.1, ?_, (Option.some.inj e1').symm⟩
          unfold entsZ
          have ez : (ks.zip its2)[i]? = some (kk, v) := List.getElem?_zip_eq_some.mpr ⟨hki, e2'⟩
          rw [List.getElem?_map, ez]
          rfl
      · rintro h3 hk3 x hx
        obtain ⟨q', hq', rfl⟩ := List.mem_map.mp hx
        have hqk : q'.1 ∈ ks := (List.of_mem_zip hq').1
        have e0 : H1 q'.1.1 = some (.tup ((kT q'.1.2).map kV)) := by rw [kT_V]; exact tk.out q'.1 hqk
        obtain ⟨o, its, n, f1, f2, f3, f4⟩ := key_of (ks := kT q'.1.2) I1.hok e0
        have hlt := kl f1
        refine ⟨o, its, n, hk3 _ _ ?_ (off hlt) (hk _ _ f1), f2, f3, f4⟩
        show q'.1.1 ≠ h'.objs.size
        rw [hsz]
        exact Nat.ne_of_lt (Nat.lt_of_lt_of_le hlt (Nat.le_add_right _ _))
      · rw [List.length_map] at z1
        simp only [List.size_toArray]
        rw [l1]
        exact z1
      · have hd3 : h2.DictOfH (tupleKind (mixKind X.prog X.w)) h'.objs.size (storedAllH [] (entsZ ks its2)) := hd2
        rw [storedAllH_nil_of_nodup _ ndk] at hd3
        obtain ⟨o, es, ep, ho, x1, x2, x3, _, x5⟩ := hd3
        have hle : s1.heap.objs.size ≤ h'.objs.size := by
          rw [hN, hsz]
          exact Nat.le_add_right _ _
        have nD := I1.hok.fresh hle
        have hbig := I1.big
        have hm : (h'.objs.size == sysModules) = false := beq_eq_false_iff_ne.mpr (Nat.ne_of_gt (Nat.lt_of_lt_of_le hbig hle))
        have kt : KT (upd H1 h'.objs.size (.dT (tabK (ks.map (·.2)) ys))) (tabK (ks.map (·.2)) ys) (entsZ ks its2) := entsZ_kt (fun q' hq' => by
          have e := tk.out q' hq'
          rw [upd_ne (ne_of_none e nD)]
          exact e) rv2 (by omega)
        rw [List.length_map] at z1
        refine ⟨.ref h'.objs.size, _, I1.laid (a := h'.objs.size) (o := .dT (tabK (ks.map (·.2)) ys)) (t' := tk2) (fun c o e => hk2 c o (off (kl e)) (hk _ _ e)) hle ⟨?_, hm, entsZ ks its2, kt, o, es, ep, ho, x1, x2, x3, x5⟩, rfl, q _ nD⟩
        rw [tabK_len (by rw [List.length_map]; exact hl), List.length_map]
        exact z1
end K45

/-! dict(pairs) of a list of pairs whose firsts are places. -/
namespace K45
open PySem PySem.Spec PyProof.Rows L2
/-- tuples of a place and an item each -/
def PT (K : PySem.W.Frag) (H : Hp) : List Addr → List (Addr × List Int) → List V → Prop
  | [], [], [] => True
  | p :: ps, k :: ks, y :: ys => SqT K H p [.ref k.1, y] ∧ PT K H ps ks ys
  | _, _, _ => False
theorem PT.same {K : PySem.W.Frag} {H H' : Hp} (e : Same H H') : ∀ {ps : List Addr} {ks : List (Addr × List Int)} {ys : List V}, PT K H ps ks ys → PT K H' ps ks ys
  | [], [], [], _ => trivial
  | p :: ps, k :: ks, y :: ys, h => ⟨e.tup h.1, PT.same e h.2⟩
  | [], [], _ :: _, h => h.elim
  | [], _ :: _, _, h => h.elim
  | _ :: _, [], _, h => h.elim
  | _ :: _, _ :: _, [], h => h.elim
theorem PT.at {K : PySem.W.Frag} {H : Hp} {D : Addr} {ws : List V} {o : HO} (e : H D = some (.lst ws)) : ∀ {ps : List Addr} {ks : List (Addr × List Int)} {ys : List V}, PT K H ps ks ys → PT K (upd H D o) ps ks ys
  | [], [], [], _ => trivial
  | p :: ps, k :: ks, y :: ys, h => ⟨sqt_at h.1 e, PT.at e h.2⟩
  | [], [], _ :: _, h => h.elim
  | [], _ :: _, _, h => h.elim
  | _ :: _, [], _, h => h.elim
  | _ :: _, _ :: _, [], h => h.elim
theorem PT.snoc {K : PySem.W.Frag} {H : Hp} {p : Addr} {k : Addr × List Int} {y : V} (q : SqT K H p [.ref k.1, y]) : ∀ {ps : List Addr} {ks : List (Addr × List Int)} {ys : List V}, PT K H ps ks ys → PT K H (ps ++ [p]) (ks ++ [k]) (ys ++ [y])
  | [], [], [], _ => ⟨q, trivial⟩
  | _ :: ps, _ :: ks, _ :: ys, h => ⟨h.1, PT.snoc q h.2⟩
  | [], [], _ :: _, h => h.elim
  | [], _ :: _, _, h => h.elim
  | _ :: _, [], _, h => h.elim
  | _ :: _, _ :: _, [], h => h.elim
section
variable {X : Cx}
theorem pt_items {pins : List (Addr × Obj)} {σ : L2.St} {H : Hp} {s : Shared} (I : Inv X pins σ H s) : ∀ {ps : List Addr} {ks : List (Addr × List Int)} {ys : List V}, PT X.K H ps ks ys →
    ∃ us : List Value, Vals ys us ∧ us.length = ks.length ∧ ps.length = ks.length ∧ ys.length = ks.length ∧ ∀ (j : Nat) p k u, ps[j]? = some p → ks[j]? = some k → us[j]? = some u → s.heap.IsTuple p #[.ref k.1, u]
  | [], [], [], _ => ⟨[], .nil, rfl, rfl, rfl, fun j p k u h => by simp at h⟩
  | p :: ps, k :: ks, y :: ys, h => by
    obtain ⟨us, r, l1, l2, l3, q⟩ := pt_items I h.2
    obtain ⟨its, rv, pt, _⟩ := I.tuple h.1
    cases rv with
    | cons r0 rr =>
      cases rr with
      | cons r1 rr =>
        cases rr
        cases r0
        rename_i u
        refine ⟨u :: us, .cons r1 r, by simp [l1], by simp [l2], by simp [l3], fun j p' k' u' e1 e2 e3 => ?_⟩
        cases j with
        | zero =>
          have f1 : p = p' := by simpa using e1
          have f2 : k = k' := by simpa using e2
          have f3 : u = u' := by simpa using e3
          rw [← f1, ← f2, ← f3]
          exact pt
        | succ j => exact q j p' k' u' (by simpa using e1) (by simpa using e2) (by simpa using e3)
  | [], [], _ :: _, h => h.elim
  | [], _ :: _, _, h => h.elim
  | _ :: _, [], _, h => h.elim
  | _ :: _, _ :: _, [], h => h.elim
def rDictPT (K : PySem.W.Frag) : List V → Hp → VK → Prop := fun vs H Q => ∃ (a : Addr) (ps : List Addr) (ks : List (Addr × List Int)) (ys : List V), vs = [.ref a] ∧ SqL K H a (ps.map V.ref) ∧ PT K H ps ks ys ∧ TP K H ks ∧ (ks.map (·.2)).Nodup ∧ ∀ D, H D = none → Q (.ref D) (upd H D (.dT (tabK (ks.map (·.2)) ys)))
theorem call_dictPT (hc : X.calm = true) (hu : X.A.units + 64 < cLine) : CallR X (.type "dict") (rDictPT X.K) := by
  intro pins s σ H vs us0 Q I r q
  obtain ⟨a, ps, ks, ys, rfl, hq, hp, tk, nd, q⟩ := q
  obtain ⟨u, rfl, rx⟩ := vals1 r
  cases rx
  obtain ⟨its, rv, pl, z1⟩ := I.list hq
  have ei := refs_at rv
  subst ei
  obtain ⟨us, rvs, l1, l2, l3, tup⟩ := pt_items I hp
  obtain ⟨o, n, ho, hcl, hd, hdat⟩ := pl
  have ndk : ((entsZ ks us).map (·.1)).Nodup := by
    rw [entsZ_keys (by omega)]
    have := nd_kT nd
    rw [List.map_map] at this
    exact this
  have psl : ((ks.zip us).map fun q => (Value.ref q.1.1, q.2)).length = ks.length := by rw [List.length_map, List.length_zip]; omega
  have get : ∀ (i : Nat) key v, ((ks.zip us).map fun q => (Value.ref q.1.1, q.2))[i]? = some (key, v) → ∃ kk, ks[i]? = some kk ∧ us[i]? = some v ∧ key = Value.ref kk.1 := by
    intro i key v e
    rw [List.getElem?_map] at e
    obtain ⟨⟨kk, u⟩, e1, e2⟩ := Option.map_eq_some_iff.mp e
    obtain ⟨f1, f2⟩ := List.getElem?_zip_eq_some.mp e1
    have e3 : (Value.ref kk.1, u) = (key, v) := e2
    cases e3
    exact ⟨kk, f1, f2, rfl⟩
  have kl : ∀ {c o}, s.heap.get? c = some o → c < s.heap.objs.size := fun e => Heap.lt_size e
  refine call_dict_pairsH (knd := tupleKind (mixKind X.prog X.w)) (ps := entsZ ks us) (PairArg.list (prog := X.prog) (w := X.w) a (ps.map Value.ref).toArray (fun j => ps.getD j 0) ((ks.zip us).map fun q => (Value.ref q.1.1, q.2))) (I.ok.hd hc) ?_
    ⟨⟨o, n, ho, hcl, hd, hdat⟩, by rw [psl]; simp; omega, fun j key v e => ?_⟩ ⟨by rw [entsZ_len (by omega), psl], fun i key v e => ?_⟩ ?_ ?_ fun h2 tk2 hd2 hk2 => ?_
  · show X.A.in1.in1.units < cLine
    exact Nat.lt_of_le_of_lt (Nat.add_le_add_left (by decide : 2 ≤ 64) X.A.units) hu
  · obtain ⟨kk, f1, f2, rfl⟩ := get j key v e
    obtain ⟨p, hpj⟩ : ∃ p, ps[j]? = some p := ⟨_, List.getElem?_eq_getElem (show j < ps.length by have := ltL f1; omega)⟩
    have gp : ps.getD j 0 = p := by rw [List.getD_eq_getElem?_getD, hpj]; rfl
    refine ⟨?_, .inl ?_⟩
    · show (ps.map Value.ref).toArray[j]? = some (.ref (ps.getD j 0))
      rw [gp]
      simp [hpj]
    · show s.heap.IsTuple (ps.getD j 0) #[Value.ref kk.1, v]
      rw [gp]
      exact tup j p kk v hpj f1 f2
  · obtain ⟨kk, f1, f2, rfl⟩ := get i key v e
    refine ⟨kT kk.2, kk.1, ?_, rfl⟩
    unfold entsZ
    have ez : (ks.zip us)[i]? = some (kk, v) := List.getElem?_zip_eq_some.mpr ⟨f1, f2⟩
    rw [List.getElem?_map, ez]
    rfl
  · rintro h3 hk3 x hx
    obtain ⟨q', hq', rfl⟩ := List.mem_map.mp hx
    have hqk : q'.1 ∈ ks := (List.of_mem_zip hq').1
    have e0 : H q'.1.1 = some (.tup ((kT q'.1.2).map kV)) := by rw [kT_V]; exact tk.out q'.1 hqk
    obtain ⟨o, its, n, f1, f2, f3, f4⟩ := key_of (ks := kT q'.1.2) I.hok e0
    exact ⟨o, its, n, hk3 _ _ (Nat.ne_of_lt (kl f1)) (by simp) f1, f2, f3, f4⟩
  · rw [List.length_map] at z1
    rw [psl, ← l2]
    exact z1
  · have hd3 : h2.DictOfH (tupleKind (mixKind X.prog X.w)) s.heap.objs.size (storedAllH [] (entsZ ks us)) := hd2
    rw [storedAllH_nil_of_nodup _ ndk] at hd3
    obtain ⟨o, es, ep, ho, x1, x2, x3, _, x5⟩ := hd3
    have nD := I.hok.fresh (Nat.le_refl s.heap.objs.size)
    have hm : (s.heap.objs.size == sysModules) = false := by
      rw [beq_eq_false_iff_ne]
      exact Nat.ne_of_gt I.big
    have kt : KT (upd H s.heap.objs.size (.dT (tabK (ks.map (·.2)) ys))) (tabK (ks.map (·.2)) ys) (entsZ ks us) := entsZ_kt (fun q' hq' => by
      have e := tk.out q' hq'
      rw [upd_ne (ne_of_none e nD)]
      exact e) rvs (by omega)
    rw [List.length_map] at z1
    refine ⟨.ref s.heap.objs.size, _, I.laid (a := s.heap.objs.size) (o := .dT (tabK (ks.map (·.2)) ys)) (t' := tk2) (fun c o e => hk2 c o (by simp) e) (Nat.le_refl _) ⟨?_, hm, entsZ ks us, kt, o, es, ep, ho, x1, x2, x3, x5⟩, rfl, q _ nD⟩
    rw [tabK_len (by rw [List.length_map]; omega), List.length_map, ← l2]
    exact z1
end
end K45

/-! What belongs to rings, as the law keeps it. -/
namespace K45
open PySem PySem.Spec PyProof.Rows L2
structure Wd where
  w : Addr
  R : Addr
  P : Addr
  Ph : Addr
  Pr : Addr
  S : Addr
  ts : List V
abbrev wd4 (R P : Addr) (e : Int) (Ph : Addr) : List (Key × V) := [((.inr "rings" : Key), V.ref R), (.inr "places", .ref P), (.inr "order", .int e), (.inr "phi", .ref Ph)]
abbrev wd5 (R P : Addr) (e : Int) (Ph Pr : Addr) : List (Key × V) := [((.inr "rings" : Key), V.ref R), (.inr "places", .ref P), (.inr "order", .int e), (.inr "phi", .ref Ph), (.inr "pairs", .ref Pr)]
abbrev wd6 (W : Wd) (e : Int) : List (Key × V) := [((.inr "rings" : Key), V.ref W.R), (.inr "places", .ref W.P), (.inr "order", .int e), (.inr "phi", .ref W.Ph), (.inr "pairs", .ref W.Pr), (.inr "seats", .ref W.S)]
/-- the pairings of all places with all labels -/
def pairT (r : List Int) : List (List Int) := (placesL r).map fun x => (placesL r).map fun y => pairL r (ordL r) x y
structure WrAt (K : PySem.W.Frag) (H : Hp) (W : Wd) (r : List Int) : Prop where
  w : H W.w = some (.dK (wd6 W (ordL r)))
  R0 : H W.R = some (.tup (r.map V.int))
  P : PlL K H W.P (placesL r)
  Ph : H W.Ph = some (.lst ((polyL (ordL r)).map V.int))
  Pr : H W.Pr = some (.lst W.ts)
  T : TopsAt H W.ts (pairT r)
  S : H W.S = some (.dT (tabK (placesL r) (upI (placesL r).length)))
  rr : r ∈ RR
theorem sqt_dk {K : PySem.W.Frag} {H : Hp} {a D : Addr} {xs : List V} {kvs : List (Key × V)} {o : HO} (h : SqT K H a xs) (hD : H D = some (.dK kvs)) : SqT K (upd H D o) a xs := by
  have off : ∀ {p : HO}, H a = some p → (∀ z, p ≠ .dK z) → a ≠ D := fun e n => ne_of e hD (n _)
  rcases h with (h | ⟨u, h⟩) | h
  · exact .inl (.inl (by rw [upd_ne (off h fun z q => by cases q)]; exact h))
  · exact .inl (.inr ⟨u, by rw [upd_ne (off h fun z q => by cases q)]; exact h⟩)
  · exact .inr h
theorem kne {a b : Str} (h : a ≠ b) : ¬ (Sum.inr a : Key) = .inr b := fun z => h (Sum.inr.inj z)
theorem k_rp : ¬ (Sum.inr "rings" : Key) = .inr "places" := kne (by decide +kernel)
theorem k_ro : ¬ (Sum.inr "rings" : Key) = .inr "order" := kne (by decide +kernel)
theorem k_rh : ¬ (Sum.inr "rings" : Key) = .inr "phi" := kne (by decide +kernel)
theorem k_rs : ¬ (Sum.inr "rings" : Key) = .inr "seats" := kne (by decide +kernel)
theorem k_rq : ¬ (Sum.inr "rings" : Key) = .inr "pairs" := kne (by decide +kernel)
theorem k_qs : ¬ (Sum.inr "pairs" : Key) = .inr "seats" := kne (by decide +kernel)
theorem k_po : ¬ (Sum.inr "places" : Key) = .inr "order" := kne (by decide +kernel)
theorem k_ph : ¬ (Sum.inr "places" : Key) = .inr "phi" := kne (by decide +kernel)
theorem k_ps : ¬ (Sum.inr "places" : Key) = .inr "seats" := kne (by decide +kernel)
theorem k_pq : ¬ (Sum.inr "places" : Key) = .inr "pairs" := kne (by decide +kernel)
theorem k_oh : ¬ (Sum.inr "order" : Key) = .inr "phi" := kne (by decide +kernel)
theorem k_os : ¬ (Sum.inr "order" : Key) = .inr "seats" := kne (by decide +kernel)
theorem k_oq : ¬ (Sum.inr "order" : Key) = .inr "pairs" := kne (by decide +kernel)
theorem k_hs : ¬ (Sum.inr "phi" : Key) = .inr "seats" := kne (by decide +kernel)
theorem k_hq : ¬ (Sum.inr "phi" : Key) = .inr "pairs" := kne (by decide +kernel)
section
variable {W : Wd} {R P Ph S : Addr} {e : Int} {rest : List (Key × V)} {v : V}
theorem v_rings : valV (((.inr "rings" : Key), V.ref R) :: rest) (.inr "rings") = some (.ref R) := L2.valV_pos rfl
theorem v_places : valV (((.inr "rings" : Key), V.ref R) :: (.inr "places", V.ref P) :: rest) (.inr "places") = some (.ref P) := by rw [L2.valV_neg k_rp, L2.valV_pos rfl]
theorem v_order : valV (((.inr "rings" : Key), V.ref R) :: (.inr "places", V.ref P) :: (.inr "order", V.int e) :: rest) (.inr "order") = some (.int e) := by rw [L2.valV_neg k_ro, L2.valV_neg k_po, L2.valV_pos rfl]
theorem v_phi : valV (((.inr "rings" : Key), V.ref R) :: (.inr "places", V.ref P) :: (.inr "order", V.int e) :: (.inr "phi", V.ref Ph) :: rest) (.inr "phi") = some (.ref Ph) := by rw [L2.valV_neg k_rh, L2.valV_neg k_ph, L2.valV_neg k_oh, L2.valV_pos rfl]
theorem v_pairs : valV (((.inr "rings" : Key), V.ref R) :: (.inr "places", V.ref P) :: (.inr "order", V.int e) :: (.inr "phi", V.ref Ph) :: (.inr "pairs", V.ref S) :: rest) (.inr "pairs") = some (.ref S) := by rw [L2.valV_neg k_rq, L2.valV_neg k_pq, L2.valV_neg k_oq, L2.valV_neg k_hq, L2.valV_pos rfl]
theorem v_seats : valV (wd6 W e) (.inr "seats") = some (.ref W.S) := by rw [L2.valV_neg k_rs, L2.valV_neg k_ps, L2.valV_neg k_os, L2.valV_neg k_hs, L2.valV_neg k_qs, L2.valV_pos rfl]
end
section
variable {K : PySem.W.Frag} {H H' : Hp} {W : Wd} {r : List Int}
theorem WrAt.gR (h : WrAt K H W r) : DGet H W.w (.str "rings") (some (.ref W.R)) := by
  rw [← v_rings (R := W.R)]
  exact DGet.k (k := Sum.inr "rings") h.w
theorem WrAt.gP (h : WrAt K H W r) : DGet H W.w (.str "places") (some (.ref W.P)) := by
  rw [← v_places (R := W.R) (P := W.P)]
  exact DGet.k (k := Sum.inr "places") h.w
theorem WrAt.gO (h : WrAt K H W r) : DGet H W.w (.str "order") (some (.int (ordL r))) := by
  rw [← v_order (R := W.R) (P := W.P)]
  exact DGet.k (k := Sum.inr "order") h.w
theorem WrAt.gH (h : WrAt K H W r) : DGet H W.w (.str "phi") (some (.ref W.Ph)) := by
  rw [← v_phi (R := W.R) (P := W.P) (e := ordL r)]
  exact DGet.k (k := Sum.inr "phi") h.w
theorem WrAt.gQ (h : WrAt K H W r) : DGet H W.w (.str "pairs") (some (.ref W.Pr)) := by
  rw [← v_pairs (R := W.R) (P := W.P) (e := ordL r) (Ph := W.Ph)]
  exact DGet.k (k := Sum.inr "pairs") h.w
theorem WrAt.gS (h : WrAt K H W r) : DGet H W.w (.str "seats") (some (.ref W.S)) := by
  rw [← v_seats (W := W) (e := ordL r)]
  exact DGet.k (k := Sum.inr "seats") h.w
theorem _root_.L2.Same.wr (e : Same H H') (h : WrAt K H W r) : WrAt K H' W r := ⟨e _ _ h.w, e _ _ h.R0, e.pll h.P, e _ _ h.Ph, e _ _ h.Pr, h.T.same e, e _ _ h.S, h.rr⟩
end
theorem WrAt.R {K : PySem.W.Frag} {H : Hp} {W : Wd} {r : List Int} (h : WrAt K H W r) : SqT K H W.R (r.map V.int) := SqT.of h.R0
/-- the world stands off the deck -/
structure Wd.Off (W : Wd) (d l : Addr) : Prop where
  w : W.w ≠ d
  P : W.P ≠ l
  Ph : W.Ph ≠ l
  Pr : W.Pr ≠ l
  ts : ∀ t, V.ref t ∈ W.ts → t ≠ l
theorem Keeps.wr {d l : Addr} {K : PySem.W.Frag} {H H' : Hp} {W : Wd} {r : List Int} (k : Keeps d l H H') (D : DeckAt d l H) (o : W.Off d l) (h : WrAt K H W r) : WrAt K H' W r := by
  obtain ⟨⟨m, j, h1⟩, ns, h2⟩ := deck_ref D
  obtain ⟨ks, p1, p2, p3⟩ := h.P
  have lst : ∀ {a : Addr} {xs : List V}, H a = some (.lst xs) → a ≠ l → H' a = some (.lst xs) := fun e ne => k _ _ e (ne_of e h1 (by intro z; cases z)) ne
  refine ⟨k _ _ h.w o.w (ne_of h.w h2 (by intro z; cases z)), k.tp0 D h.R0, ⟨ks, lst p1 o.P, p2, ⟨fun q hq => ?_⟩⟩, lst h.Ph o.Ph, lst h.Pr o.Pr, ⟨h.T.1, fun i v ts e1 e2 => ?_⟩, k _ _ h.S (ne_of h.S h1 (by intro z; cases z)) (ne_of h.S h2 (by intro z; cases z)), h.rr⟩
  · have e := p3.out q hq
    exact k _ _ e (ne_of e h1 (by intro z; cases z)) (ne_of e h2 (by intro z; cases z))
  · obtain ⟨t, rfl, q⟩ := h.T.2 i v ts e1 e2
    exact ⟨t, rfl, lst q (o.ts t (List.mem_of_getElem? e1))⟩
theorem wo_pos : ∀ r ∈ RR, 1 < (placesL r).length := by decide +kernel
theorem off_of {d l : Addr} {K : PySem.W.Frag} {H H' : Hp} {W : Wd} {r : List Int} (D : DeckAt d l H) (s : Same H H') (h : WrAt K H' W r) (n1 : H W.w = none) (n2 : H W.Ph = none) (n3 : H W.Pr = none) (n4 : ∀ t, V.ref t ∈ W.ts → H t = none) : W.Off d l := by
  obtain ⟨⟨m, j, h1⟩, ns, h2⟩ := deck_ref D
  refine ⟨fun z => (by rw [z, h1] at n1; cases n1), fun z => ?_, fun z => (by rw [z, h2] at n2; cases n2), fun z => (by rw [z, h2] at n3; cases n3), fun t ht z => ?_⟩
  · obtain ⟨ks, p1, p2, _⟩ := h.P
    have e2 := s _ _ h2
    rw [z, e2] at p1
    have hl := wo_pos r h.rr
    rw [← p2, List.length_map] at hl
    cases ks with
    | nil => simp at hl
    | cons k ks =>
      have e3 : ns.map V.int = V.ref k.1 :: rf ks := HO.lst.inj (Option.some.inj p1)
      cases ns with
      | nil => cases e3
      | cons n ns =>
        have := (List.cons.inj e3).1
        cases this
  · have q := n4 t ht
    rw [z, h2] at q
    cases q
section
variable {P : Program} {w : World} {K : PySem.W.Frag} {mg : Str → Option Value} {base : Heap} {f f1 f2 f3 f4 f5 : Addr} {fd fd1 fd2 fd3 fd4 fd5 : FuncData}
def spLWorld (K : PySem.W.Frag) : Sp := fun vs H Q _ => ∃ (v : V) (r : List Int), vs = [v] ∧ TupP H v r ∧ r ∈ RR ∧ ∀ W H', Same H H' → H W.w = none → H W.Ph = none → H W.Pr = none → (∀ t, V.ref t ∈ W.ts → H t = none) → WrAt K H' W r → Q (.ref W.w) H'
abbrev woN : List Str := ["rings", "e", "places", "world", "x", "k", "at", "place"]
def woSc : Scope := { kind := .function, names := [(".0", .local), ("x", .cell), ("e", .free), ("places", .free), ("rings", .free)], isGenerator := false, isCoroutine := false }
theorem scWO : FnScope woN ["rings"] (defScope sLWorld) := ⟨rfl, rfl, rfl, by decide +kernel, rfl, by decide +kernel, by decide +kernel⟩
theorem put5 {R P Ph S : Addr} {e : Int} : putK (wd4 R P e Ph) (.inr "pairs") (.ref S) = wd5 R P e Ph S := by
  simp [putK, wd4, wd5, show ¬ Str.ofString "rings" = Str.ofString "pairs" by decide +kernel, show ¬ Str.ofString "places" = Str.ofString "pairs" by decide +kernel, show ¬ Str.ofString "order" = Str.ofString "pairs" by decide +kernel, show ¬ Str.ofString "phi" = Str.ofString "pairs" by decide +kernel]
theorem put6 {w R P Ph Pr S : Addr} {ts : List V} {e : Int} : putK (wd5 R P e Ph Pr) (.inr "seats") (.ref S) = wd6 ⟨w, R, P, Ph, Pr, S, ts⟩ e := by
  simp [putK, wd5, wd6, show ¬ Str.ofString "rings" = Str.ofString "seats" by decide +kernel, show ¬ Str.ofString "places" = Str.ofString "seats" by decide +kernel, show ¬ Str.ofString "order" = Str.ofString "seats" by decide +kernel, show ¬ Str.ofString "phi" = Str.ofString "seats" by decide +kernel, show ¬ Str.ofString "pairs" = Str.ofString "seats" by decide +kernel]
theorem pt_len {K : PySem.W.Frag} : ∀ {H : Hp} {ps : List Addr} {ks : List (Addr × List Int)} {ys : List V}, PT K H ps ks ys → ps.length = ks.length := by
  intro H ps
  induction ps with
  | nil =>
    intro ks ys h
    cases ks with
    | nil => rfl
    | cons _ _ => exact h.elim
  | cons p ps ih =>
    intro ks ys h
    cases ks with
    | nil => exact h.elim
    | cons k ks =>
      cases ys with
      | nil => exact h.elim
      | cons y ys => simp [ih h.2]
theorem ok_lWorld (F : FnP K "_law_world" sLWorld f fd) (B : Bl mg) (gD : mg "dict" = none)
    (F1 : FnP K "_law_order" sLOrder f1 fd1) (g1 : mg "_law_order" = some (.ref f1)) (G1 : FnOk P w K mg base CX0 2 f1 fd1 ["rings"] (spLOrder K))
    (F2 : FnP K "_law_places" sLPlaces f2 fd2) (g2 : mg "_law_places" = some (.ref f2)) (G2 : FnOk P w K mg base CX0 1 f2 fd2 ["rings"] (spLPl K))
    (F3 : FnP K "_law_phi" sLPhi f3 fd3) (g3 : mg "_law_phi" = some (.ref f3)) (G3 : FnOk P w K mg base CX0 5 f3 fd3 ["e"] spLPhi)
    (F4 : FnP K "_law_pairing" sLPairing f4 fd4) (g4 : mg "_law_pairing" = some (.ref f4)) (G4 : FnOk P w K mg base CX0 1 f4 fd4 ["rings", "e", "place", "label"] (spLPr K)) :
    FnOk P w K mg base CX0 6 f fd ["rings"] (spLWorld K) := by
  have b1 : Binds K fd1 ["rings"] [] := F1.bindsN fun _ _ _ _ _ _ us hl => match us, hl with | [_], _ => rfl
  have b2 : Binds K fd2 ["rings"] [] := F2.bindsN fun _ _ _ _ _ _ us hl => match us, hl with | [_], _ => rfl
  have b3 : Binds K fd3 ["e"] [] := F3.bindsN fun _ _ _ _ _ _ us hl => match us, hl with | [_], _ => rfl
  have b4 : Binds K fd4 ["rings", "e", "place", "label"] [] := F4.bindsN fun _ _ _ _ _ _ us hl => match us, hl with | [_, _, _, _], _ => rfl
  refine F.ok scWO (fun vs H Q E h => ?_) (fun cdv A outer s H vs Q E hr h => ?_)
  · obtain ⟨v, r, rfl, _⟩ := h
    rfl
  · obtain ⟨v, r, rfl, hv, h14, k⟩ := h
    have hu := hu_of hr
    refine ⟨_, PSs.nox (pss_cons (ps_asg (pe_tup (pa_cons (pe_call G1 (hr.mono (by decide)) (by rfl) g1 F1.kp b1 .nil pass0 (pa_cons (pv 0) pa_nil)) (pa_cons (pe_call G2 (hr.mono (by decide)) (by rfl) g2 F2.kp b2 .nil pass0 (pa_cons (pv 0) pa_nil)) pa_nil))) (pg_tup rfl (pgs_cons (pg_name (i := 1) scWO.nd rfl (Or.inr rfl)) (pgs_cons (pg_name (i := 2) scWO.nd rfl (Or.inr rfl)) pgs_nil))))
      (pss_cons (ps_set (i := 3) scWO.nd rfl (Or.inl rfl) (pe_disp (pps_cons pe_str (pv 0) (pps_cons pe_str (pv 2) (pps_cons pe_str (pv 1) (pps_cons pe_str (pe_call G3 hr (by rfl) g3 F3.kp b3 .nil pass0 (pa_cons (pv 1) pa_nil)) pps_nil)))) (by rfl) (by rfl) (fun z => by cases z) (by decide)))
      (pss_cons (ps_dput hu (pv 3) pe_str
          (pe_lc (own := [("x", 4)]) (g := gName 4) (tt := tYes) (te := tLc (iList K (tVar 2)) (gName 5) tYes (tCall (spLPr K) [] E0 (tCons (tVar 0) (tCons (tVar 1) (tCons (tVar 4) (tCons (tVar 5) tNil))))) [5]) rfl scWO.nd (pi_list (pv 2)) (blkOk_by (own := [("x", 4)]) (N := woN) (sc := defScope sLWorld) (by decide +kernel))
            (fun _ _ _ _ _ => pg_name (i := 4) scWO.nd rfl (Or.inr rfl)) (fun _ _ _ _ _ => pts_nil)
            (fun _ _ _ _ _ => pe_lc (own := [("k", 5)]) (g := gName 5) (tt := tYes) (te := tCall (spLPr K) [] E0 (tCons (tVar 0) (tCons (tVar 1) (tCons (tVar 4) (tCons (tVar 5) tNil))))) rfl scWO.nd (pi_list (pv 2)) (blkOk_by (own := [("k", 5)]) (N := woN) (sc := relS woSc (defScope sLWorld)) (by decide +kernel))
              (fun _ _ _ _ _ => pg_name (i := 5) scWO.nd rfl (Or.inl rfl)) (fun _ _ _ _ _ => pts_nil)
              (fun _ _ _ _ _ => pe_call G4 (hr.mono (by decide)) (by rfl) g4 F4.kp b4 .nil pass0 (pa_cons (pv 0) (pa_cons (pv 1) (pa_cons (pv 4) (pa_cons (pv 5) pa_nil))))))) rfl)
      (pss_cons (ps_dput hu (pv 3) pe_str (pe_callTy (call_dictPT rfl (Nat.lt_of_le_of_lt (Nat.add_le_add_left (by decide : 64 ≤ 64) _) hr.units)) (by rfl) gD (by decide +kernel) (pa_cons
          (pe_lc (own := [("at", 6), ("place", 7)]) (g := gTup K 2 (gCons (gName 6) (gCons (gName 7) gNil))) (tt := tYes) (te := tTup (tCons (tVar 7) (tCons (tVar 6) tNil))) rfl scWO.nd (pi_enum (by rfl) (B "enumerate" (by decide +kernel)) (pa_cons (pv 2) pa_nil))
            (blkOk_by (own := [("at", 6), ("place", 7)]) (N := woN) (sc := defScope sLWorld) (by decide +kernel))
            (fun _ _ _ _ _ => pg_tup rfl (pgs_cons (pg_name (i := 6) scWO.nd rfl (Or.inl rfl)) (pgs_cons (pg_name (i := 7) scWO.nd rfl (Or.inl rfl)) pgs_nil))) (fun _ _ _ _ _ => pts_nil) (fun _ _ _ _ _ => pe_tup (pa_cons (pv 7) (pa_cons (pv 6) pa_nil)))) pa_nil)) rfl)
      (pss_one (ps_ret (pv 3))))))), ?_⟩
    have he := er_in r h14
    have eb := er_bd _ he
    have h16 := rr_pl0 r h14
    have nd := rr_nd r h14
    refine ⟨_, rfl, _, r, rfl, hv.i, h14, fun H1 s1 => ?_⟩
    refine ⟨_, rfl, _, r, rfl, (by obtain ⟨a, rfl, ha⟩ := hv; exact ⟨a, rfl, s1.tup (SqT.of ha)⟩), h14, fun PA H1' s1' hP => ⟨(by show 2 ≤ sizeLine; decide), fun t0 nt0 => ?_⟩⟩
    have st0 : Same H1' (upd H1' t0 (.tup [.int (ordL r), .ref PA])) := same_upd nt0
    generalize hH2 : upd H1' t0 (.tup [.int (ordL r), .ref PA]) = H2 at st0
    have gt0 : H2 t0 = some (.tup [.int (ordL r), .ref PA]) := by rw [← hH2, upd_same]
    refine ⟨t0, _, rfl, SqT.of gt0, rfl, _, _, rfl, _, _, rfl, rfl, ?_⟩
    have s2 := s1'.trans st0
    have hP := st0.pll hP
    obtain ⟨a, rfl, ha0⟩ := hv
    have ha : SqT K H a (r.map V.int) := SqT.of ha0
    have t2 := s1.trans s2
    intro wA nw
    have s3 : Same H2 (upd H2 wA (.dK [])) := same_upd nw
    have t3 := t2.trans s3
    refine ⟨_, rfl, _, rfl, _, rfl, _, rfl, _, rfl, he, fun Ph H4 s4 nPh gPh => ?_⟩
    have g4 : H4 wA = some (.dK []) := s4 _ _ upd_same
    have t4 := t3.trans s4
    have nw0 : H wA = none := t2.free nw
    refine ⟨g4, wd4 a PA (ordL r) Ph, rfl, (by show 4 ≤ 15; decide), ?_⟩
    have em : mergeK [] (wd4 a PA (ordL r) Ph) = wd4 a PA (ordL r) Ph := rfl
    rw [em]
    generalize hH5 : upd H4 wA (.dK (wd4 a PA (ordL r) Ph)) = H5
    have t5 : Same H H5 := by rw [← hH5]; exact same_at t4 nw0
    have gw5 : H5 wA = some (.dK (wd4 a PA (ordL r) Ph)) := by rw [← hH5, upd_same]
    have s24 := s3.trans s4
    have s25 : Same H2 H5 := by rw [← hH5]; exact same_at s24 nw
    have gPh5 : H5 Ph = some (.lst ((polyL (ordL r)).map V.int)) := by
      rw [← hH5, upd_ne (ne_of gPh g4 (by intro z; cases z))]
      exact gPh
    have gP5 := s25.pll hP
    obtain ⟨ks, p1, p2, p3⟩ := gP5
    have kl : ks.length = (placesL r).length := by rw [← p2, List.length_map]
    -- pairs
    refine ⟨_, rfl, PA, rfl, ⟨_, SqL.of p1⟩, fun D2 hD2 => ?_⟩
    have tl : (pairT r).length = (placesL r).length := by rw [pairT, List.length_map]
    refine lc_list (K := K) (a := PA) (xs := rf ks) (fun i H6 => Same H5 H6 ∧ ∃ ts, H6 D2 = some (.lst ts) ∧ TopsAt H6 ts ((pairT r).take i) ∧ ∀ t, V.ref t ∈ ts → H5 t = none) ⟨same_upd hD2, [], upd_same, ⟨rfl, fun i v ts e _ => by simp at e⟩, by simp⟩ (fun i H6 _ ⟨s6, _⟩ => SqL.of (s6 _ _ p1)) ?_ ?_
    · rintro i y H6 hi ⟨s6, ts, h6, tt, fr⟩
      obtain ⟨q, rfl, hq⟩ := getR hi
      have hqm := List.mem_of_getElem? hq
      have hq2 : (placesL r)[i]? = some q.2 := by rw [← p2, List.getElem?_map, hq]; rfl
      have hqp := List.mem_of_getElem? hq2
      refine ⟨rfl, _, rfl, PA, rfl, ⟨_, SqL.of (s6 _ _ p1)⟩, fun D3 hD3 => ?_⟩
      have nD3 : D2 ≠ D3 := ne_of_none h6 hD3
      refine lc_list (K := K) (a := PA) (xs := rf ks) (fun j H7 => Same H6 H7 ∧ H7 D3 = some (.lst ((((placesL r).take j).map fun y => pairL r (ordL r) q.2 y).map V.int))) ⟨same_upd hD3, by rw [upd_same]; rfl⟩ (fun j H7 _ ⟨s7, _⟩ => SqL.of ((s6.trans s7) _ _ p1)) ?_ ?_
      · rintro j y2 H7 hj ⟨s7, h7⟩
        obtain ⟨q', rfl, hq'⟩ := getR hj
        have hqm' := List.mem_of_getElem? hq'
        have hj2 : (placesL r)[j]? = some q'.2 := by rw [← p2, List.getElem?_map, hq']; rfl
        have hjp := List.mem_of_getElem? hj2
        have jl := ltL hj2
        have s57 := s6.trans s7
        refine ⟨rfl, _, rfl, _, rfl, _, rfl, _, rfl, _, _, _, r, q.2, q'.2, rfl, ⟨a, rfl, (t5.trans s57).tup ha⟩, ⟨q.1, rfl, s57.tup (SqT.of (p3.out q hqm))⟩, ⟨q'.1, rfl, s57.tup (SqT.of (p3.out q' hqm'))⟩, h14, hqp, hjp, fun H8 s8 => ?_⟩
        refine ⟨_, s8 _ _ h7, sl_lt (by rw [List.length_map, List.length_map, List.length_take]; omega), same_at (s7.trans s8) hD3, ?_⟩
        rw [upd_same, takeS hj2, List.map_append, List.map_append]
        rfl
      · rintro H7 ⟨s7, h7⟩
        have el : (rf ks).length = (placesL r).length := by rw [List.length_map, kl]
        rw [el, List.take_length] at h7
        have et : (pairT r)[i]? = some ((placesL r).map fun y => pairL r (ordL r) q.2 y) := by
          unfold pairT
          rw [List.getElem?_map, hq2]
          rfl
        have il := ltL hq2
        refine ⟨ts, s7 _ _ h6, ?_, same_at (s6.trans s7) hD2, _, upd_same, ?_, fun t ht => ?_⟩
        · have := tt.1
          rw [List.length_take] at this
          exact sl_lt (by omega)
        · rw [takeS et]
          have h8 : upd H7 D2 (.lst (ts ++ [.ref D3])) D3 = some (.lst (((placesL r).map fun y => pairL r (ordL r) q.2 y).map V.int)) := by rw [upd_ne nD3.symm]; exact h7
          exact ((tt.same s7).up (s7 _ _ h6)).snoc h8
        · rcases List.mem_append.mp ht with z | z
          · exact fr t z
          · rw [V.ref.inj (List.mem_singleton.mp z)]
            exact s6.free hD3
    · rintro H6 ⟨s6, ts, h6, tt, fr⟩
      have el : (rf ks).length = (pairT r).length := by rw [List.length_map, kl, tl]
      rw [el, List.take_length] at tt
      have gw6 := s6 _ _ gw5
      refine ⟨_, rfl, wA, _, rfl, DPut.k (k := Sum.inr "pairs") gw6 (by show 4 < sizeLine; decide), ?_⟩
      rw [put5]
      generalize hH6 : upd H6 wA (.dK (wd5 a PA (ordL r) Ph D2)) = H6'
      have off6 : ∀ {b : Addr} {o : HO}, H6 b = some o → (∀ kvs, o ≠ .dK kvs) → H6' b = some o := fun hb hn => by
        rw [← hH6, upd_ne (ne_of hb gw6 (fun z => hn _ z))]
        exact hb
      have t6 : Same H H6' := by rw [← hH6]; exact same_at (t5.trans s6) nw0
      have gw6' : H6' wA = some (.dK (wd5 a PA (ordL r) Ph D2)) := by rw [← hH6, upd_same]
      have gPh6 := off6 (s6 _ _ gPh5) (fun kvs z => by cases z)
      have gD6 := off6 h6 (fun kvs z => by cases z)
      have tt6 : TopsAt H6' ts (pairT r) := ⟨tt.1, fun i v xs e1 e2 => by
        obtain ⟨t, rfl, q⟩ := tt.2 i v xs e1 e2
        exact ⟨t, rfl, off6 q (fun kvs z => by cases z)⟩⟩
      have s26 : Same H2 H6' := by rw [← hH6]; exact same_at (s25.trans s6) nw
      have p16 := off6 (s6 _ _ p1) (fun kvs z => by cases z)
      have p36 : TP K H6' ks := ⟨fun q hq => off6 ((tp_same s6 p3).out q hq) (fun kvs z => by cases z)⟩
      -- seats
      refine ⟨_, rfl, PA, rf ks, rfl, SqL.of p16, fun D hD => ?_⟩
      refine lc_it (walk_enum (K := K) (a := PA) (xs := rf ks)) (fun i H7 => Same H6' H7 ∧ ∃ ps, H7 D = some (.lst (ps.map V.ref)) ∧ PT K H7 ps (ks.take i) ((upI ks.length).take i)) ⟨same_upd hD, [], upd_same, trivial⟩ (fun i H7 _ ⟨s7, _⟩ => SqL.of (s7 _ _ p16)) ?_ ?_
      · rintro i x H7 H8 hi ⟨s7, ps, gD7, pt⟩ ⟨T5, c5, y5, rfl, hT5, rfl, ec, ey⟩
        obtain rfl := Option.some.inj ec
        obtain ⟨q, rfl, hq⟩ := getR ey
        have il := ltL hq
        have sT : Same H7 (upd H7 T5 (.tup [.int (i : Int), .ref q.1])) := same_upd hT5
        generalize hH8 : upd H7 T5 (.tup [.int (i : Int), .ref q.1]) = H8 at sT
        have gT : H8 T5 = some (.tup [.int (i : Int), .ref q.1]) := by rw [← hH8, upd_same]
        refine ⟨T5, _, rfl, SqT.of gT, rfl, _, _, rfl, _, _, rfl, rfl, ?_⟩
        refine ⟨rfl, _, rfl, _, rfl, (by show 2 ≤ sizeLine; decide), fun t nt => ?_⟩
        have st : Same H8 (upd H8 t (.tup [.ref q.1, .int (i : Int)])) := same_upd nt
        generalize hH9 : upd H8 t (.tup [.ref q.1, .int (i : Int)]) = H9 at st
        have gt : H9 t = some (.tup [.ref q.1, .int (i : Int)]) := by rw [← hH9, upd_same]
        have s79 := sT.trans st
        have pl : ps.length = i := by
          rw [pt_len pt, List.length_take]
          omega
        have eu : (upI ks.length)[i]? = some (V.int (i : Nat)) := by
          unfold upI
          rw [List.getElem?_map, List.getElem?_range il]
          rfl
        have gD9 := s79 _ _ gD7
        refine ⟨_, gD9, sl_lt (by rw [List.length_map]; omega), same_at (s7.trans s79) hD, ps ++ [t], by rw [upd_same, List.map_append]; rfl, ?_⟩
        rw [takeS hq, takeS eu]
        exact PT.at gD9 (PT.snoc (SqT.of gt) (pt.same s79))
      · rintro H7 ⟨s7, ps, gD7, pt⟩
        rw [List.length_map, List.take_length, List.take_of_length_le (by simp [upI])] at pt
        refine ⟨D, ps, ks, upI ks.length, rfl, SqL.of gD7, pt, tp_same s7 p36, by rw [p2]; exact nd, fun SA nS => ?_⟩
        rw [p2, kl]
        have s8 : Same H7 (upd H7 SA (.dT (tabK (placesL r) (upI (placesL r).length)))) := same_upd nS
        generalize hH8 : upd H7 SA (.dT (tabK (placesL r) (upI (placesL r).length))) = H8 at s8
        have gS8 : H8 SA = some (.dT (tabK (placesL r) (upI (placesL r).length))) := by rw [← hH8, upd_same]
        have s68 := s7.trans s8
        have gw8 := s68 _ _ gw6'
        refine ⟨_, rfl, wA, _, rfl, DPut.k (k := Sum.inr "seats") gw8 (by show 5 < sizeLine; decide), ?_⟩
        rw [put6 (w := wA) (ts := ts)]
        have fin : ∀ {b : Addr} {o : HO}, H8 b = some o → (∀ kvs, o ≠ .dK kvs) → upd H8 wA (.dK (wd6 ⟨wA, a, PA, Ph, D2, SA, ts⟩ (ordL r))) b = some o := fun hb hn => by
          rw [upd_ne (ne_of hb gw8 (fun z => hn _ z))]
          exact hb
        have tt8 := tt6.same s68
        refine ⟨_, rfl, k ⟨wA, a, PA, Ph, D2, SA, ts⟩ _ (same_at (t6.trans s68) nw0) nw0 (t3.free nPh) (t5.free hD2) (fun t ht => t5.free (fr t ht)) ⟨upd_same, ?_, ?_, ?_, ?_, ⟨tt8.1, fun i v xs e1 e2 => ?_⟩, ?_, h14⟩⟩
        · exact (same_at (t6.trans s68) nw0) _ _ ha0
        · exact (same_at (s26.trans s68) nw).pll hP
        · exact fin (s68 _ _ gPh6) (fun kvs z => by cases z)
        · exact fin (s68 _ _ gD6) (fun kvs z => by cases z)
        · obtain ⟨t, rfl, q⟩ := tt8.2 i v xs e1 e2
          exact ⟨t, rfl, fin q (fun kvs z => by cases z)⟩
        · exact fin gS8 (fun kvs z => by cases z)
end
end K45

/-! The law's drawn numbers and rows. -/
namespace K45
open PySem PySem.Spec PyProof.Rows L2
theorem seq_asg {te : TE} {g : TG} {t : TS} {D : Ends} {σ : L2.St} {H : Hp} (h : te σ H fun v H1 => g v σ H1 fun σ2 H2 => t D σ2 H2) : tSeq (tAsg te g) t D σ H := h
theorem Keeps.at_new {d l L : Addr} {H H' : Hp} {o : HO} (k : Keeps d l H H') (n : H L = none) : Keeps d l H (upd H' L o) := fun b u e h1 h2 => by
  rw [upd_ne (ne_of_none e n)]
  exact k b u e h1 h2
theorem off_deck {d l L : Addr} {H : Hp} (D : DeckAt d l H) (n : H L = none) : L ≠ d ∧ L ≠ l := by
  obtain ⟨⟨m, j, h1⟩, ns, h2⟩ := deck_ref D
  exact ⟨fun q => (by rw [q, h1] at n; cases n), fun q => (by rw [q, h2] at n; cases n)⟩
/-- a number that may be drawn -/
structure GdN (e : Int) (n : Num) : Prop where
  ok : NumOk e n
  six : n.2 ∣ 6
  small : ∀ t ∈ n.1, -4 ≤ t ∧ t ≤ 4
theorem gd_low {e : Int} (he : e ∈ ER) {tops : List Int} {b : Int} (hl : tops.length = (polyL e).length - 1) (h1 : 1 ≤ b) (h2 : b ≤ 3) (ht : ∀ t ∈ tops, -4 ≤ t ∧ t ≤ 4) : GdN e (lowL tops b) := by
  have d := low_dvd tops b h1
  have p := low_pos (v := tops) h1
  have q := Int.le_of_dvd (by omega) d
  refine ⟨⟨by rw [low_len, hl, er_deg e he], p, by omega, low_low h1⟩, Int.dvd_trans d ?_, fun t h => ?_⟩
  · have : b = 1 ∨ b = 2 ∨ b = 3 := by omega
    rcases this with z | z | z <;> rw [z] <;> decide
  · obtain ⟨x, hx, rfl⟩ := List.mem_map.mp h
    have g := lowC_pos tops b h1
    have xb := ht x hx
    obtain ⟨c, hc⟩ := (lowC_dvd tops b).2 x hx
    have e1 : x / lowC tops b = c := by
      conv => lhs; lhs; rw [hc]
      exact Int.mul_ediv_cancel_left _ (by omega)
    rw [e1]
    generalize lowC tops b = G at g hc
    refine ⟨?_, ?_⟩
    · rcases Int.lt_or_le c 0 with z | z
      · have : G * c ≤ 1 * c := Int.mul_le_mul_of_nonpos_right g (by omega)
        omega
      · omega
    · rcases Int.lt_or_le c 0 with z | z
      · omega
      · have : 1 * c ≤ G * c := Int.mul_le_mul_of_nonneg_right g z
        omega
theorem gd_whole {e : Int} (he : e ∈ ER) {x : Int} (h1 : -4 ≤ x) (h2 : x ≤ 4) : GdN e (numL e [x] 1) := by
  obtain ⟨m1, m2, m3, m4⟩ := er_mon e he
  refine gd_low he (redL_len' (by omega)) (by decide) (by decide) fun t ht => ?_
  rw [red_whole m1] at ht
  rcases List.mem_cons.mp ht with rfl | z
  · exact ⟨h1, h2⟩
  · rw [(List.mem_replicate.mp z).2]
    decide
theorem turn_small : ∀ e ∈ ER, ∀ k ∈ List.range e.toNat, ∀ s ∈ ([1, -1] : List Int), ∀ t ∈ redL (List.replicate k 0 ++ [s]) (polyL e), -4 ≤ t ∧ t ≤ 4 := by decide +kernel
theorem gd_turn {e : Int} (he : e ∈ ER) {k : Nat} (hk : k < e.toNat) {s : Int} (hs : s = 1 ∨ s = -1) : GdN e (numL e (List.replicate k 0 ++ [s]) 1) := by
  obtain ⟨m1, m2, m3, m4⟩ := er_mon e he
  exact gd_low he (redL_len' (by omega)) (by decide) (by decide) (turn_small e he k (List.mem_range.mpr hk) s (by rcases hs with z | z <;> rw [z] <;> decide))
theorem gd_items {e : Int} (he : e ∈ ER) {xs : List Int} (hl : xs.length = (polyL e).length - 1) {b : Int} (h1 : 1 ≤ b) (h2 : b ≤ 3) (hx : ∀ t ∈ xs, -4 ≤ t ∧ t ≤ 4) : GdN e (numL e xs b) := by
  obtain ⟨m1, m2, m3, m4⟩ := er_mon e he
  unfold numL
  rw [redL_low (by omega) hl]
  exact gd_low he hl h1 h2 hx
theorem er_dge : ∀ e ∈ ER, (polyL e).length - 1 ≤ e.toNat := by decide +kernel
section
variable {P : Program} {w : World} {K : PySem.W.Frag} {mg : Str → Option Value} {base : Heap} {f f1 f2 f3 f4 f5 : Addr} {fd fd1 fd2 fd3 fd4 fd5 : FuncData}
def spLSome (K : PySem.W.Frag) : Sp := fun vs H Q _ => ∃ (d l : Addr) (W : Wd) (r : List Int), vs = [.ref d, .ref W.w] ∧ DeckAt d l H ∧ W.Off d l ∧ WrAt K H W r ∧ ∀ v n H', DeckAt d l H' → Keeps d l H H' → GdN (ordL r) n → NumAt K H' v n → Q v H'
abbrev snN : List Str := ["deck", "world", "way", "e", "j", "items"]
end
end K45

/-! The law's drawn rows. -/
namespace K45
open PySem PySem.Spec PyProof.Rows L2
theorem Nums.set {K : PySem.W.Frag} {H : Hp} {vs : List V} {ns : List Num} {i : Nat} {v : V} {n : Num} (h : Nums K H vs ns) (q : NumAt K H v n) : Nums K H (vs.set i v) (ns.set i n) := by
  refine ⟨by rw [List.length_set, List.length_set]; exact h.1, fun j u m e1 e2 => ?_⟩
  rw [List.getElem?_set] at e1 e2
  by_cases c : i = j
  · rw [if_pos c] at e1 e2
    by_cases b : i < vs.length
    · rw [if_pos b] at e1
      rw [if_pos (by rw [← h.1]; exact b)] at e2
      rw [← Option.some.inj e1, ← Option.some.inj e2]
      exact q
    · rw [if_neg b] at e1
      cases e1
  · rw [if_neg c] at e1 e2
    exact h.2 j u m e1 e2
theorem Nums.rep {K : PySem.W.Frag} {H : Hp} {v : V} {n : Num} (q : NumAt K H v n) (k : Nat) : Nums K H (List.replicate k v) (List.replicate k n) := by
  refine ⟨by simp, fun j u m e1 e2 => ?_⟩
  rw [(List.mem_replicate.mp (List.mem_of_getElem? e1)).2, (List.mem_replicate.mp (List.mem_of_getElem? e2)).2]
  exact q
/-- a row that may be drawn -/
structure GdR (r : List Int) (ns : List Num) : Prop where
  len : ns.length = (placesL r).length
  num : ∀ n ∈ ns, GdN (ordL r) n
section
variable {P : Program} {w : World} {K : PySem.W.Frag} {mg : Str → Option Value} {base : Heap} {f f1 f2 f3 f4 f5 : Addr} {fd fd1 fd2 fd3 fd4 fd5 : FuncData}
def spLFew (K : PySem.W.Frag) : Sp := fun vs H Q _ => ∃ (d l : Addr) (W : Wd) (r : List Int) (k : Int), vs = [.ref d, .ref W.w, .int k] ∧ DeckAt d l H ∧ W.Off d l ∧ WrAt K H W r ∧ 0 ≤ k ∧ k ≤ 100 ∧ ∀ v ns H', DeckAt d l H' → Keeps d l H H' → GdR r ns → RowAt K H' v ns → Q v H'
abbrev frN : List Str := ["deck", "world", "k", "found", "n", "turn"]
end
end K45

/-! difference_table, counted, seats_of. -/
namespace K45
open PySem PySem.Spec PyProof.Rows L2
/-- the seat of the first place less the second one -/
def dfS (r x y : List Int) : Nat := seatN r (sumP r x (repL r y (-1)))
def tabD (r : List Int) : List (List Int) := (placesL r).map fun x => (placesL r).map fun y => ((dfS r x y : Nat) : Int)
theorem sub_in : ∀ r ∈ RR, ∀ x ∈ placesL r, ∀ y ∈ placesL r, sumP r x (repL r y (-1)) ∈ placesL r := by decide +kernel
theorem rep_len (r y : List Int) (j : Int) : (repL r y j).length = r.length := by simp [repL]
section
variable {P : Program} {w : World} {K : PySem.W.Frag} {mg : Str → Option Value} {base : Heap} {f f1 f2 f3 f4 f5 C fI fM fS : Addr} {fd fd1 fd2 fd3 fd4 fd5 fdI fdS : FuncData}
def spTable (K : PySem.W.Frag) (C : Addr) : Sp := fun vs H Q _ => ∃ (p : Addr) (r : List Int), vs = [.ref p] ∧ FloorAt K C H p r ∧ r ∈ RR ∧ ∀ D ts H', Same H H' → H D = none → H' D = some (.lst ts) → TopsAt H' ts (tabD r) → Q (.ref D) H'
abbrev tabN : List Str := ["floor", "seats", "backs", "place", "back"]
def tabSc : Scope := { kind := .function, names := [(".0", .local), ("place", .cell), ("backs", .free), ("floor", .free), ("seats", .free)], isGenerator := false, isCoroutine := false }
end
end K45

/-! Lots: is_ascending, is_lot, check_lot. -/
namespace K45
open PySem PySem.Spec PyProof.Rows L2
section
variable {X : Cx}
def rInDt (K : PySem.W.Frag) : R2 := fun x y H Q => ∃ d ds, Dp K H x d ∧ Dp K H y (.tuple ds) ∧ SeqAt.shaped d = true ∧ SeqAt.shaped (.list ds) = true ∧ Q (.bl (ds.any fun z => PyData.eqv z d)) H
theorem op_inDt (hu : X.A.units + 65 < cLine) : OpR X (compareOp .In) (rInDt X.K) := by
  intro pins s σ H x y v u Q I rx ry h
  obtain ⟨d, ds, hd, he, sd, se, q⟩ := h
  obtain ⟨as, r1⟩ := Dp.reads I d x v hd rx
  obtain ⟨bs, r2⟩ := Dp.reads I (.tuple ds) y u he ry
  exact SeqAt.in_tuple_reads r2 r1 (SeqAt.canLay_of_shaped se) (SeqAt.canLay_of_shaped sd) (room_in_shaped sd hu) ⟨.bl _, H, I, rfl, q⟩
end
theorem ints_shaped (ns : List Int) : SeqAt.shaped (intsD ns) = true := by
  unfold SeqAt.shaped
  have h := ints_depth ns
  have e : (PyData.tuple (ns.map PyData.int)).depth ≤ 64 := by
    simp only [PyData.depth]
    omega
  simp only [PyData.canLay0, ints_lay, Bool.true_and]
  exact decide_eq_true e
theorem pls_lay : ∀ ps : List (List Int), PyData.canLayAll0 (ps.map intsD) = true
  | [] => rfl
  | p :: ps => by simp [PyData.canLayAll0, PyData.canLay0, ints_lay p, pls_lay ps]
theorem pls_depth : ∀ ps : List (List Int), PyData.depthAll (ps.map intsD) ≤ 2
  | [] => by simp [PyData.depthAll]
  | p :: ps => by
    have h1 := ints_depth p
    have h2 := pls_depth ps
    simp only [List.map_cons, PyData.depthAll, PyData.depth]
    omega
theorem pls_shaped (ps : List (List Int)) : SeqAt.shaped (.list (ps.map intsD)) = true := by
  unfold SeqAt.shaped
  have h := pls_depth ps
  have e : (PyData.list (ps.map intsD)).depth ≤ 64 := by
    simp only [PyData.depth]
    omega
  simp only [PyData.canLay0, pls_lay, Bool.true_and]
  exact decide_eq_true e
theorem eqv_all : ∀ (a b : List Int), a.length = b.length → PyData.eqvAll (a.map PyData.int) (b.map PyData.int) = decide (a = b)
  | [], [], _ => by simp [PyData.eqvAll]
  | x :: a, y :: b, h => by
    have e := eqv_all a b (by simpa using h)
    simp only [List.map_cons, PyData.eqvAll, PyData.eqv, e]
    by_cases c : x = y <;> by_cases d : a = b <;> simp [c, d]
  | [], _ :: _, h => by simp at h
  | _ :: _, [], h => by simp at h
theorem eqv_tup (a b : List Int) (h : a.length = b.length) : PyData.eqv (intsD a) (intsD b) = decide (a = b) := by
  rw [← eqv_all a b h]
  simp [PyData.eqv, h]
theorem any_eqv {ps : List (List Int)} {p : List Int} (h : ∀ q ∈ ps, q.length = p.length) : ((ps.map intsD).any fun z => PyData.eqv z (intsD p)) = decide (p ∈ ps) := by
  rw [Bool.eq_iff_iff, List.any_eq_true, decide_eq_true_iff]
  constructor
  · rintro ⟨z, hz, e⟩
    obtain ⟨q, hq, rfl⟩ := List.mem_map.mp hz
    rw [eqv_tup q p (h q hq), decide_eq_true_iff] at e
    rw [← e]
    exact hq
  · intro hp
    refine ⟨intsD p, List.mem_map_of_mem hp, ?_⟩
    rw [eqv_tup p p rfl]
    exact decide_eq_true rfl
theorem dp_all {K : PySem.W.Frag} {H : Hp} : ∀ {ks : List (Addr × List Int)}, TL K H ks → DpAll K H (rf ks) ((ks.map (·.2)).map intsD)
  | [], _ => .nil
  | k :: ks, h => .cons (.tup (h k List.mem_cons_self) (dp_ints k.2)) (dp_all fun q hq => h q (List.mem_cons_of_mem _ hq))
theorem plt_dp {K : PySem.W.Frag} {H : Hp} {v : V} {ps : List (List Int)} (h : PlT K H v ps) : Dp K H v (.tuple (ps.map intsD)) := by
  obtain ⟨p, ks, rfl, h1, rfl, h3⟩ := h
  exact .tup h1 (dp_all h3)
/-- one behind the other -/
def AscL (ps : List (List Int)) : Prop := ∀ k, k + 1 < ps.length → HT.lexLt (ps.getD k []) (ps.getD (k + 1) []) = true
section
variable {P : Program} {w : World} {K : PySem.W.Frag} {mg : Str → Option Value} {base : Heap} {f f1 f2 f3 f4 f5 C fI fM : Addr} {fd fd1 fd2 fd3 fd4 fd5 fdI : FuncData}
def spAsc (K : PySem.W.Frag) : Sp := fun vs H Q _ => ∃ (u : V) (ps : List (List Int)), vs = [u] ∧ PlT K H u ps ∧ ps.length ≤ 64 ∧ AscL ps ∧ ∀ H', Same H H' → Q (.bl true) H'
theorem plt_get {ks : List (Addr × List Int)} {k : Nat} (h : k < ks.length) : ∃ q, ks[k]? = some q ∧ (rf ks)[k]? = some (.ref q.1) ∧ (ks.map (·.2)).getD k [] = q.2 := by
  refine ⟨ks[k], List.getElem?_eq_getElem h, ?_, ?_⟩
  · rw [List.getElem?_map, List.getElem?_eq_getElem h]
    rfl
  · rw [List.getD_eq_getElem?_getD, List.getElem?_map, List.getElem?_eq_getElem h]
    rfl
def spIsLot (K : PySem.W.Frag) (b : V) : Sp := fun vs H Q _ => ∃ (v u : V) (r : List Int) (ps : List (List Int)), vs = [v, u] ∧ TupI K H v r ∧ PlT K H u ps ∧ r ∈ RR ∧ (∀ p ∈ ps, p ∈ placesL r) ∧ ps.length ≤ 64 ∧ AscL ps ∧ ∀ H', Same H H' → Q b H'
theorem _root_.L2.Same.plt {K : PySem.W.Frag} {H H' : Hp} {v : V} {ps : List (List Int)} (e : Same H H') (h : PlT K H v ps) : PlT K H' v ps := by
  obtain ⟨p, ks, rfl, h1, h2, h3⟩ := h
  exact ⟨p, ks, rfl, e.tup h1, h2, fun q hq => e.tup (h3 q hq)⟩
end
end K45

/-! counted, seats_of, lot_differences. -/
namespace K45
open PySem PySem.Spec PyProof.Rows L2
def lotI (ms : List Nat) : List Int := ms.map fun m => ((m : Nat) : Int)
def cnS (m : List Int) (p : Nat) : List Int := m.set p (m.getD p 0 + 1)
def cnJ (row : List Int) (lot : List Nat) (m : List Int) : Nat → List Int
  | 0 => m
  | j + 1 => cnS (cnJ row lot m j) (row.getD (lot.getD j 0) 0).toNat
def cnI (tss : List (List Int)) (lot : List Nat) : Nat → List Int
  | 0 => List.replicate tss.length 0
  | i + 1 => cnJ (tss.getD (lot.getD i 0) []) lot (cnI tss lot i) lot.length
def cdL (tss : List (List Int)) (lot : List Nat) : List Int := cnI tss lot lot.length
theorem cnS_len (m : List Int) (p : Nat) : (cnS m p).length = m.length := by unfold cnS; rw [List.length_set]
theorem cnJ_len (row : List Int) (lot : List Nat) (m : List Int) : ∀ j, (cnJ row lot m j).length = m.length
  | 0 => rfl
  | j + 1 => by
    show (cnS _ _).length = _
    rw [cnS_len, cnJ_len row lot m j]
theorem cnI_len (tss : List (List Int)) (lot : List Nat) : ∀ i, (cnI tss lot i).length = tss.length
  | 0 => List.length_replicate
  | i + 1 => by
    show (cnJ _ _ _ _).length = _
    rw [cnJ_len, cnI_len tss lot i]
/-- a table of seats -/
structure TabOk (n : Nat) (tss : List (List Int)) : Prop where
  len : tss.length = n
  row : ∀ T ∈ tss, T.length = n ∧ ∀ x ∈ T, ∃ m : Nat, x = (m : Int) ∧ m < n
/-- a tuple of places that stand as they are -/
def PlK (K : PySem.W.Frag) (H : Hp) (v : V) (ps : List (List Int)) : Prop := ∃ p ks, v = .ref p ∧ SqT K H p (rf ks) ∧ ks.map (·.2) = ps ∧ TP K H ks
theorem PlK.plt {K : PySem.W.Frag} {H : Hp} {v : V} {ps : List (List Int)} (h : PlK K H v ps) : PlT K H v ps := by
  obtain ⟨p, ks, rfl, h1, h2, h3⟩ := h
  exact ⟨p, ks, rfl, h1, h2, fun q hq => h3 q hq⟩
theorem _root_.L2.Same.plk {K : PySem.W.Frag} {H H' : Hp} {v : V} {ps : List (List Int)} (e : Same H H') (h : PlK K H v ps) : PlK K H' v ps := by
  obtain ⟨p, ks, rfl, h1, h2, h3⟩ := h
  exact ⟨p, ks, rfl, e.tup h1, h2, tp_same e h3⟩
theorem lotI_get {ms : List Nat} {i : Nat} {y : V} (h : ((lotI ms).map V.int)[i]? = some y) : ∃ m, y = V.int ((m : Nat) : Int) ∧ ms[i]? = some m := by
  obtain ⟨c, rfl, hc⟩ := getI h
  unfold lotI at hc
  rw [List.getElem?_map] at hc
  cases e : ms[i]? with
  | none => rw [e] at hc; cases hc
  | some m => rw [e] at hc; exact ⟨m, by rw [← Option.some.inj hc], rfl⟩
section
variable {P : Program} {w : World} {K : PySem.W.Frag} {mg : Str → Option Value} {base : Heap} {f f1 f2 f3 f4 f5 C fI fM fS : Addr} {fd fd1 fd2 fd3 fd4 fd5 fdI fdS : FuncData}
def spCounted (K : PySem.W.Frag) : Sp := fun vs H Q _ => ∃ (D L : Addr) (ts : List V) (tss : List (List Int)) (lot : List Nat) (n : Nat), vs = [.ref D, .ref L] ∧ SqL K H D ts ∧ TopsAt H ts tss ∧ TabOk n tss ∧ n ≤ 100 ∧ H L = some (.lst ((lotI lot).map V.int)) ∧ (∀ m ∈ lot, m < n) ∧ ∀ D' H', Same H H' → H D' = none → H' D' = some (.lst ((cdL tss lot).map V.int)) → Q (.ref D') H'
abbrev ctN : List Str := ["table", "lot", "many", "one", "other"]
def spSeatsOf (K : PySem.W.Frag) (C : Addr) : Sp := fun vs H Q _ => ∃ (p : Addr) (u : V) (r : List Int) (ps : List (List Int)), vs = [.ref p, u] ∧ FloorAt K C H p r ∧ r ∈ RR ∧ PlK K H u ps ∧ (∀ x ∈ ps, x ∈ placesL r) ∧ ps.length ≤ 64 ∧ ∀ D H', Same H H' → H D = none → H' D = some (.lst ((lotI (ps.map (seatN r))).map V.int)) → Q (.ref D) H'
abbrev soN : List Str := ["floor", "places", "seats", "place"]
theorem tab_ok {r : List Int} (h : r ∈ RR) : TabOk (placesL r).length (tabD r) := by
  refine ⟨by rw [tabD, List.length_map], fun T hT => ?_⟩
  obtain ⟨x, hx, rfl⟩ := List.mem_map.mp hT
  refine ⟨by rw [List.length_map], fun y hy => ?_⟩
  obtain ⟨z, hz, rfl⟩ := List.mem_map.mp hy
  exact ⟨dfS r x z, rfl, seat_lt (sub_in r h x hx z hz)⟩
/-- the differences of a lot, as integers -/
def lotD (r : List Int) (ps : List (List Int)) : List Int := cdL (tabD r) (ps.map (seatN r))
def spLotD (K : PySem.W.Frag) : Sp := fun vs H Q _ => ∃ (v u : V) (r : List Int) (ps : List (List Int)), vs = [v, u] ∧ TupI K H v r ∧ PlK K H u ps ∧ r ∈ RR ∧ (∀ p ∈ ps, p ∈ placesL r) ∧ ps.length ≤ 64 ∧ AscL ps ∧ ∀ t H', Same H H' → H' t = some (.tup ((lotD r ps).map V.int)) → Q (.ref t) H'
end
end K45

/-! The law's lots. -/
namespace K45
open PySem PySem.Spec PyProof.Rows L2
theorem pl_lex : ∀ r ∈ RR, (placesL r).Pairwise fun x y => HT.lexLt x y = true := by decide +kernel
theorem asc_sub {r : List Int} (h : r ∈ RR) {ps : List (List Int)} (hs : ps.Sublist (placesL r)) : AscL ps := fun k hk => by
  have q := (pl_lex r h).sublist hs
  rw [List.pairwise_iff_getElem] at q
  have z := q k (k + 1) (by omega) hk (by omega)
  rw [List.getD_eq_getElem?_getD, List.getD_eq_getElem?_getD, List.getElem?_eq_getElem (show k < ps.length by omega), List.getElem?_eq_getElem hk]
  exact z
/-- the row of a lot, of 0 and 1 -/
def lrow (r : List Int) (ps : List (List Int)) : List Int := (placesL r).map fun x => if x ∈ ps then 1 else 0
def smallR : List (List Int) := [[5], [4], [6], [2, 2], [3], [2, 3], [7], [2], [8], [2, 4], [3, 3], [2, 2, 2], [9], [10], [12]]
theorem small_in : ∀ r ∈ smallR, r ∈ RR := by decide +kernel
section
variable {P : Program} {w : World} {K : PySem.W.Frag} {mg : Str → Option Value} {base : Heap} {f f1 f2 f3 f4 f5 : Addr} {fd fd1 fd2 fd3 fd4 fd5 : FuncData}
def spLSmall (K : PySem.W.Frag) : Sp := fun vs H Q _ => ∃ (d l : Addr), vs = [.ref d] ∧ DeckAt d l H ∧ ∀ v r H', DeckAt d l H' → Keeps d l H H' → TupP H' v r → r ∈ RR → Q v H'
theorem scSmall : FnScope ["deck", "some"] ["deck"] (defScope sLSmall) := ⟨rfl, rfl, rfl, by decide +kernel, rfl, by decide +kernel, by decide +kernel⟩
theorem ok_lSmall (F : FnP K "_law_small" sLSmall f fd) (F1 : FnP K "_law_pick" sPick f1 fd1) (g1 : mg "_law_pick" = some (.ref f1)) (G1 : FnOk P w K mg base CX0 2 f1 fd1 ["deck", "some"] (spPick K)) : FnOk P w K mg base CX0 3 f fd ["deck"] (spLSmall K) := by
  have b1 : Binds K fd1 ["deck", "some"] [] := F1.bindsN fun _ _ _ _ _ _ us hl => match us, hl with | [_, _], _ => rfl
  refine F.ok scSmall (fun vs H Q E h => ?_) (fun cdv A outer s H vs Q E hr h => ?_)
  · obtain ⟨d, l, rfl, _⟩ := h
    rfl
  · obtain ⟨d, l, rfl, D, k⟩ := h
    refine ⟨_, PSs.nox (pss_cons (ps_set (i := 1) scSmall.nd rfl (Or.inl rfl) (pe_lst (pa_cons (pe_tup (pa_cons pe_int pa_nil)) (pa_cons (pe_tup (pa_cons pe_int pa_nil)) (pa_cons (pe_tup (pa_cons pe_int pa_nil)) (pa_cons (pe_tup (pa_cons pe_int (pa_cons pe_int pa_nil))) (pa_cons (pe_tup (pa_cons pe_int pa_nil)) (pa_cons (pe_tup (pa_cons pe_int (pa_cons pe_int pa_nil))) (pa_cons (pe_tup (pa_cons pe_int pa_nil)) (pa_cons (pe_tup (pa_cons pe_int pa_nil)) (pa_cons (pe_tup (pa_cons pe_int pa_nil)) (pa_cons (pe_tup (pa_cons pe_int (pa_cons pe_int pa_nil))) (pa_cons (pe_tup (pa_cons pe_int (pa_cons pe_int pa_nil))) (pa_cons (pe_tup (pa_cons pe_int (pa_cons pe_int (pa_cons pe_int pa_nil)))) (pa_cons (pe_tup (pa_cons pe_int pa_nil)) (pa_cons (pe_tup (pa_cons pe_int pa_nil)) (pa_cons (pe_tup (pa_cons pe_int pa_nil)) pa_nil)))))))))))))))))
      (pss_one (ps_ret (pe_call G1 hr rfl g1 F1.kp b1 .nil pass0 (pa_cons (pv 0) (pa_cons (pv 1) pa_nil)))))), ?_⟩
    refine seq_asg ?_
    refine lst_tups (K := K) (rs := smallR) rfl (by decide) (by decide) fun p ks H1 s1 t1 e1 n1 h1 => ?_
    have kl : ks.length = 15 := by
      have := congrArg List.length e1
      rw [List.length_map] at this
      exact this
    have D1 := s1.deck D
    have o := off_deck D n1
    refine ⟨_, rfl, _, rfl, d, l, p, rf ks, rfl, D1, h1, o.2, by rw [List.length_map]; omega, by rw [List.length_map]; omega, fun v H2 hv D2 K2 => ?_⟩
    obtain ⟨q, hq, rfl⟩ := List.mem_map.mp hv
    exact k _ q.2 H2 D2 ((Same.keeps s1).trans K2) ⟨q.1, rfl, K2.tp0 D1 (t1.out q hq)⟩ (small_in _ (by rw [← e1]; exact List.mem_map_of_mem hq))
def spLLR (K : PySem.W.Frag) : Sp := fun vs H Q _ => ∃ (W : Wd) (u : V) (r : List Int) (ps : List (List Int)), vs = [.ref W.w, u] ∧ WrAt K H W r ∧ PlT K H u ps ∧ (∀ p ∈ ps, p ∈ placesL r) ∧ ∀ v H', Same H H' → TupI K H' v (lrow r ps) → Q v H'
abbrev llN : List Str := ["world", "lot", "place"]
def spLDL (K : PySem.W.Frag) : Sp := fun vs H Q _ => ∃ (d l : Addr) (W : Wd) (r : List Int), vs = [.ref d, .ref W.w] ∧ DeckAt d l H ∧ W.Off d l ∧ WrAt K H W r ∧ ∀ v ps H', DeckAt d l H' → Keeps d l H H' → ps.Sublist (placesL r) → PlK K H' v ps → Q v H'
abbrev dlN : List Str := ["deck", "world", "share", "place"]
end
end K45

/-! The law's sum of places. -/
namespace K45
open PySem PySem.Spec PyProof.Rows L2
def lsum (r x y : List Int) (j : Int) : List Int := (List.range r.length).map fun k => (x.getD k 0 + j * y.getD k 0) % r.getD k 0
section
variable {P : Program} {w : World} {K : PySem.W.Frag} {mg : Str → Option Value} {base : Heap} {f f1 f2 f3 f4 f5 : Addr} {fd fd1 fd2 fd3 fd4 fd5 : FuncData}
def spLSum (K : PySem.W.Frag) : Sp := fun vs H Q _ => ∃ (v u z : V) (r p q : List Int) (j : Int), vs = [v, u, z, .int j] ∧ TupI K H v r ∧ TupI K H u p ∧ TupI K H z q ∧ r ∈ RR ∧ p.length = r.length ∧ q.length = r.length ∧ -1000 ≤ j ∧ j ≤ 1000 ∧ ∀ t H', Same H H' → H t = none → H' t = some (.tup ((lsum r p q j).map V.int)) → Q (.ref t) H'
abbrev lsN : List Str := ["rings", "place", "other", "k", "x", "y", "size"]
theorem scLSum : FnScope lsN ["rings", "place", "other", "k"] (defScope sLSum) := ⟨rfl, rfl, rfl, by decide +kernel, rfl, by decide +kernel, by decide +kernel⟩
theorem ok_lSum (F : FnP K "_law_sum" sLSum f fd) (B : Bl mg) : FnOk P w K mg base CX0 1 f fd ["rings", "place", "other", "k"] (spLSum K) := by
  refine F.ok scLSum (fun vs H Q E h => ?_) (fun cdv A outer s H vs Q E hr h => ?_)
  · obtain ⟨v, u, z, r, p, q, j, rfl, _⟩ := h
    rfl
  · obtain ⟨v, u, z, r, p, q, j, rfl, ⟨a, rfl, ha⟩, ⟨b, rfl, hb⟩, ⟨c, rfl, hc⟩, h14, hl, hl2, j1, j2, k⟩ := h
    refine ⟨_, PSs.nox (pss_one (ps_ret (pe_callTy call_tuple_of (by rfl) (B "tuple" (by decide +kernel)) (by decide +kernel) (pa_cons
      (pe_lc (own := [("x", 4), ("y", 5), ("size", 6)]) (g := gTup K 3 (gCons (gName 4) (gCons (gName 5) (gCons (gName 6) gNil)))) (tt := tYes) rfl scLSum.nd (pi_zip3 rfl (B "zip" (by decide +kernel)) (pa_cons (pv 1) (pa_cons (pv 2) (pa_cons (pv 0) pa_nil))))
        (blkOk_by (own := [("x", 4), ("y", 5), ("size", 6)]) (N := lsN) (sc := defScope sLSum) (by decide +kernel))
        (fun _ _ _ _ _ => pg_tup rfl (pgs_cons (pg_name (i := 4) scLSum.nd rfl (Or.inl rfl)) (pgs_cons (pg_name (i := 5) scLSum.nd rfl (Or.inl rfl)) (pgs_cons (pg_name (i := 6) scLSum.nd rfl (Or.inl rfl)) pgs_nil)))) (fun _ _ _ _ _ => pts_nil)
        (fun _ _ _ _ _ => pe_op op_mod (pe_callTy call_int1 (by rfl) (B "int" (by decide +kernel)) (by decide +kernel) (pa_cons (pe_op op_add (pv 4) (pe_op op_mul (pv 3) (pv 5))) pa_nil)) (pv 6))) pa_nil)))), ?_⟩
    have hn := rr_len r h14
    refine ⟨_, rfl, _, rfl, _, rfl, b, c, a, _, _, _, rfl, hb, hc, ha, fun D hD => ?_⟩
    refine lc_it (walk_zip3 (K := K) (a := b) (b := c) (c := a) (xs := p.map V.int) (ys := q.map V.int) (zs := r.map V.int) (by rw [List.length_map, List.length_map, hl, hl2]) (by rw [List.length_map, List.length_map, hl])) (fun i H2 => Same H H2 ∧ H2 D = some (.lst (((List.range i).map fun k => (p.getD k 0 + j * q.getD k 0) % r.getD k 0).map V.int))) ⟨same_upd hD, by rw [upd_same]; rfl⟩ (fun i H2 _ ⟨s2, _⟩ => ⟨s2.tup hb, s2.tup hc, s2.tup ha⟩) ?_ ?_
    · rintro i x H2 H3 hi ⟨s2, h2⟩ ⟨T, x1, x2, x3, rfl, hT, rfl, e1, e2, e3⟩
      obtain ⟨x, rfl, hx⟩ := getI e1
      obtain ⟨y, rfl, hy⟩ := getI e2
      obtain ⟨n, rfl, hn'⟩ := getI e3
      rw [List.length_map] at hi
      have nb := rr_pos r h14 n (List.mem_of_getElem? hn')
      have s3 : Same H2 (upd H2 T (.tup [.int x, .int y, .int n])) := same_upd hT
      refine ⟨T, _, rfl, SqT.of upd_same, rfl, _, _, rfl, _, _, rfl, _, _, rfl, rfl, ?_⟩
      have gx : p.getD i 0 = x := by rw [List.getD_eq_getElem?_getD, hx]; rfl
      have gy : q.getD i 0 = y := by rw [List.getD_eq_getElem?_getD, hy]; rfl
      have gn : r.getD i 0 = n := by rw [List.getD_eq_getElem?_getD, hn']; rfl
      refine ⟨rfl, _, rfl, _, rfl, _, rfl, _, _, rfl, rfl, Or.inl ⟨by omega, by omega⟩, _, _, rfl, rfl, .inl ⟨_, rfl, _, rfl, _, _, rfl, rfl, by omega, ?_⟩⟩
      refine ⟨_, s3 _ _ h2, sl_lt (by rw [List.length_map, List.length_map, List.length_range]; omega), same_at (s2.trans s3) hD, ?_⟩
      rw [upd_same, List.range_succ, List.map_append, List.map_append]
      show _ = some (HO.lst (_ ++ [V.int ((p.getD i 0 + j * q.getD i 0) % r.getD i 0)]))
      rw [gx, gy, gn]
    · rintro H2 ⟨s2, h2⟩
      rw [List.length_map, hl] at h2
      refine ⟨D, _, rfl, .inl ⟨SqL.of h2, fun t ht => ?_⟩⟩
      exact k t _ (same_new s2 ht) (s2.free ht) upd_same
end
end K45

/-! The law's differences of whole rows. -/
namespace K45
open PySem PySem.Spec PyProof.Rows L2
theorem dif_all : ∀ r ∈ RR, ∀ x ∈ placesL r, ∀ s ∈ placesL r, lsum r x s (-1) = difL r x s ∧ difL r x s ∈ placesL r ∧ sumP r x (repL r s (-1)) = difL r x s := by decide +kernel
/-- the seat of a place less another -/
def dS (r x s : List Int) : Nat := seatN r (difL r x s)
def ctT (r xs s : List Int) (i : Nat) : Int := xs.getD i 0 * xs.getD (dS r ((placesL r).getD i []) s) 0
def ctL (r xs : List Int) : List Int := (placesL r).map fun s => ((List.range (placesL r).length).map (ctT r xs s)).sum
section
variable {P : Program} {w : World} {K : PySem.W.Frag} {mg : Str → Option Value} {base : Heap} {f f1 f2 f3 f4 f5 : Addr} {fd fd1 fd2 fd3 fd4 fd5 : FuncData}
def spLCt (K : PySem.W.Frag) : Sp := fun vs H Q _ => ∃ (W : Wd) (u : V) (r xs : List Int), vs = [.ref W.w, u] ∧ WrAt K H W r ∧ TupI K H u xs ∧ xs.length = (placesL r).length ∧ (∀ x ∈ xs, -(2 ^ 60) ≤ x ∧ x ≤ 2 ^ 60) ∧ ∀ D H', Same H H' → H D = none → H' D = some (.lst ((ctL r xs).map V.int)) → Q (.ref D) H'
abbrev coN : List Str := ["world", "whole", "rings", "places", "seats", "found", "spot", "x", "place"]
theorem scCO : FnScope coN ["world", "whole"] (defScope sLCounted) := ⟨rfl, rfl, rfl, by decide +kernel, rfl, by decide +kernel, by decide +kernel⟩
theorem ok_lCt (F : FnP K "_law_counted" sLCounted f fd) (B : Bl mg) (F1 : FnP K "_law_sum" sLSum f1 fd1) (g1 : mg "_law_sum" = some (.ref f1)) (G1 : FnOk P w K mg base CX0 1 f1 fd1 ["rings", "place", "other", "k"] (spLSum K)) :
    FnOk P w K mg base CX0 2 f fd ["world", "whole"] (spLCt K) := by
  have b1 : Binds K fd1 ["rings", "place", "other", "k"] [] := F1.bindsN fun _ _ _ _ _ _ us hl => match us, hl with | [_, _, _, _], _ => rfl
  refine F.ok scCO (fun vs H Q E h => ?_) (fun cdv A outer s H vs Q E hr h => ?_)
  · obtain ⟨W, u, r, xs, rfl, _⟩ := h
    rfl
  · obtain ⟨W, u, r, xs, rfl, hW, ⟨b, rfl, hb⟩, xl, xb, k⟩ := h
    have hu := hu_of hr
    refine ⟨_, PSs.nox (pss_cons (ps_asg (pe_tup (pa_cons (pe_dget hu (pv 0) pe_str (fun _ _ => rfl)) (pa_cons (pe_dget hu (pv 0) pe_str (fun _ _ => rfl)) (pa_cons (pe_dget hu (pv 0) pe_str (fun _ _ => rfl)) pa_nil)))) (pg_tup rfl (pgs_cons (pg_name (i := 2) scCO.nd rfl (Or.inr rfl)) (pgs_cons (pg_name (i := 3) scCO.nd rfl (Or.inl rfl)) (pgs_cons (pg_name (i := 4) scCO.nd rfl (Or.inr rfl)) pgs_nil)))))
      (pss_cons (ps_set (i := 5) scCO.nd rfl (Or.inl rfl) (pe_lst pa_nil))
      (pss_cons (ps_for PassesOwn.never rfl (pi_list (pv 3)) (pg_name (i := 6) scCO.nd rfl (Or.inr rfl))
        (pss_one (ps_expr (pe_bm PySem.F.plainAttrs_list PySem.F.slot_list_append PySem.F.type_list_append mt_append (pv 5) (pa_cons (pe_callB (cr_sum rfl) (by rfl) (B "sum" (by decide +kernel)) (by decide +kernel) (pa_cons
          (pe_lc (own := [("x", 7), ("place", 8)]) (g := gTup K 2 (gCons (gName 7) (gCons (gName 8) gNil))) (tt := tYes) (te := tOp rMul (tVar 7) (tOp (rIxT K) (tVar 1) (tDGet (tVar 4) (tCall (spLSum K) [] E0 (tCons (tVar 2) (tCons (tVar 8) (tCons (tVar 6) (tCons (tUn (rU fun i => .int (-i)) (tC (.int 1))) tNil)))))))) rfl scCO.nd (pi_zipQ (by rfl) (B "zip" (by decide +kernel)) (pa_cons (pv 1) (pa_cons (pv 3) pa_nil)))
            (blkOk_by (own := [("x", 7), ("place", 8)]) (N := coN) (sc := defScope sLCounted) (by decide +kernel)) (fun _ _ _ _ _ => pg_tup rfl (pgs_cons (pg_name (i := 7) scCO.nd rfl (Or.inl rfl)) (pgs_cons (pg_name (i := 8) scCO.nd rfl (Or.inl rfl)) pgs_nil))) (fun _ _ _ _ _ => pts_nil)
            (fun _ _ _ _ _ => pe_op op_mul (pv 7) (pe_ix ix_tup (pv 1) (pe_dget hu (pv 4) (pe_call G1 hr (by rfl) g1 F1.kp b1 .nil pass0 (pa_cons (pv 2) (pa_cons (pv 8) (pa_cons (pv 6) (pa_cons (pe_un un_neg pe_int) pa_nil))))) (fun _ _ => rfl)) (fun _ _ => rfl)))) pa_nil)) pa_nil)))))
      (pss_one (ps_ret (pv 5)))))), ?_⟩
    obtain ⟨kp, p1, p2, p3⟩ := id hW.P
    have h14 := hW.rr
    have h16 := rr_pl0 r h14
    have nd := rr_nd r h14
    have kl : kp.length = (placesL r).length := by rw [← p2, List.length_map]
    refine ⟨_, rfl, W.w, _, rfl, hW.gR, _, rfl, W.w, _, rfl, hW.gP, _, rfl, W.w, _, rfl, hW.gS, (by show 3 ≤ sizeLine; decide), fun t nt => ?_⟩
    have st : Same H (upd H t (.tup [.ref W.R, .ref W.P, .ref W.S])) := same_upd nt
    generalize hH1 : upd H t (.tup [.ref W.R, .ref W.P, .ref W.S]) = H1 at st
    have gt : H1 t = some (.tup [.ref W.R, .ref W.P, .ref W.S]) := by rw [← hH1, upd_same]
    refine ⟨t, _, rfl, SqT.of gt, rfl, _, _, rfl, _, _, rfl, _, _, rfl, rfl, ?_⟩
    refine ⟨by decide, fun F nF => ?_⟩
    have sF := same_new (o := .lst []) st nF
    have nF0 : H F = none := st.free nF
    refine ⟨_, rfl, W.P, rfl, ⟨_, SqL.of (sF _ _ p1)⟩, ?_⟩
    refine for_list (K := K) (a := W.P) (xs := rf kp) (fun i σ H2 => ∃ u, σ = [some (.ref W.w), some (.ref b), some (.ref W.R), some (.ref W.P), some (.ref W.S), some (.ref F), u, none, none] ∧ Same H H2 ∧ H2 F = some (.lst ((((placesL r).take i).map fun s => ((List.range (placesL r).length).map (ctT r xs s)).sum).map V.int)))
      ⟨none, rfl, sF, upd_same⟩ (fun i σ H2 _ ⟨_, _, s2, _⟩ => SqL.of (s2 _ _ p1)) ?_ ?_
    · rintro i y σ H2 hi ⟨u, rfl, s2, g2⟩
      obtain ⟨q, rfl, hq⟩ := getR hi
      have hqm := List.mem_of_getElem? hq
      have hq2 : (placesL r)[i]? = some q.2 := by rw [← p2, List.getElem?_map, hq]; rfl
      have hqp := List.mem_of_getElem? hq2
      have il := ltL hq2
      refine ⟨_, rfl, Or.inl ⟨rfl, _, SqL.of g2⟩, ?_⟩
      refine ⟨_, rfl, _, rfl, b, W.P, xs.map V.int, rf kp, rfl, s2.tup hb, SqL.of (s2 _ _ p1), fun D nD => ?_⟩
      refine lc_it (walk_zipQ (K := K) (a := b) (b := W.P) (xs := xs.map V.int) (ys := rf kp) (by rw [List.length_map, List.length_map, kl, xl])) (fun j H3 => Same H2 H3 ∧ H3 D = some (.lst (((List.range j).map (ctT r xs q.2)).map V.int))) ⟨same_upd nD, upd_same⟩ (fun j H3 _ ⟨s3, _⟩ => ⟨(s2.trans s3).tup hb, SqL.of ((s2.trans s3) _ _ p1)⟩) ?_ ?_
      · rintro j v H3 H4 hj ⟨s3, g3⟩ ⟨T5, x1, x2, rfl, hT5, rfl, e1, e2⟩
        obtain ⟨x, rfl, hx⟩ := getI e1
        obtain ⟨q', rfl, hq'⟩ := getR e2
        have hqm' := List.mem_of_getElem? hq'
        have hj2 : (placesL r)[j]? = some q'.2 := by rw [← p2, List.getElem?_map, hq']; rfl
        have hjp := List.mem_of_getElem? hj2
        have jl := ltL hj2
        have sT : Same H3 (upd H3 T5 (.tup [.int x, .ref q'.1])) := same_upd hT5
        generalize hH4 : upd H3 T5 (.tup [.int x, .ref q'.1]) = H4 at sT
        have gT : H4 T5 = some (.tup [.int x, .ref q'.1]) := by rw [← hH4, upd_same]
        have t4 := (s2.trans s3).trans sT
        refine ⟨T5, _, rfl, SqT.of gT, rfl, _, _, rfl, _, _, rfl, rfl, ?_⟩
        obtain ⟨d1, d2, d3⟩ := dif_all r h14 q'.2 hjp q.2 hqp
        refine ⟨rfl, _, rfl, _, rfl, _, rfl, _, rfl, _, rfl, _, rfl, _, rfl, _, _, _, r, q'.2, q.2, -1, rfl, ⟨W.R, rfl, t4.tup hW.R⟩, ⟨q'.1, rfl, t4.tup (p3 q' hqm')⟩, ⟨q.1, rfl, t4.tup (p3 q hqm)⟩, h14, rr_whole h14 hjp, rr_whole h14 hqp, by decide, by decide, fun tk H5 s5 ntk htk => ?_⟩
        rw [d1] at htk
        have mlt := seat_lt d2
        have hx' := idx_get d2
        generalize hm : seatN r (difL r q'.2 q.2) = m at mlt
        have hxm : (placesL r)[m]? = some (difL r q'.2 q.2) := by rw [← hm]; exact hx'
        have hv : valV (tabK (placesL r) (upI (placesL r).length)) (kT (difL r q'.2 q.2)) = some (V.int (m : Nat)) := tabK_val nd hxm (by
          unfold upI
          rw [List.getElem?_map, List.getElem?_range mlt]
          rfl)
        have t5 := t4.trans s5
        have dgt : DGet H5 W.S (.ref tk) (some (V.int (m : Nat))) := by
          rw [← hv]
          exact DGet.t (k := kT (difL r q'.2 q.2)) (t5 _ _ hW.S) (by rw [kT_V]; exact htk)
        have xm : (xs.map V.int)[m]? = some (V.int (xs.getD m 0)) := getD_of (by omega)
        have xb1 := xb x (List.mem_of_getElem? hx)
        refine ⟨W.S, _, rfl, dgt, b, _, _, .int (xs.getD m 0), rfl, rfl, t5.tup hb, atI_nat xm, _, _, rfl, rfl, Or.inl ⟨by omega, by omega⟩, ?_⟩
        have s35 := sT.trans s5
        refine ⟨_, s35 _ _ g3, sl_lt (by rw [List.length_map, List.length_map, List.length_range]; omega), same_at (s3.trans s35) nD, ?_⟩
        rw [upd_same, List.range_succ, List.map_append, List.map_append]
        have ec : ctT r xs q.2 j = x * xs.getD m 0 := by
          unfold ctT dS
          have g1 : xs.getD j 0 = x := by rw [List.getD_eq_getElem?_getD, hx]; rfl
          have g2 : (placesL r).getD j [] = q'.2 := by rw [List.getD_eq_getElem?_getD, hj2]; rfl
          rw [g1, g2, hm]
        show _ = some (HO.lst (_ ++ [V.int (ctT r xs q.2 j)]))
        rw [ec]
      · rintro H3 ⟨s3, g3⟩
        rw [List.length_map, xl] at g3
        refine ⟨D, _, rfl, SqL.of g3, F, _, _, rfl, rfl, s3 _ _ g2, sl_lt (by rw [List.length_map, List.length_map, List.length_take]; omega), _, rfl, same_at (s2.trans s3) nF0, ?_⟩
        rw [upd_same, takeS hq2, List.map_append, List.map_append]
        rfl
    · rintro σ H2 ⟨u, rfl, s2, g2⟩
      have el : (rf kp).length = (placesL r).length := by rw [List.length_map, kl]
      rw [el, List.take_length] at g2
      exact ⟨_, rfl, k F H2 s2 nF0 g2⟩
end
end K45

/-! The law's differences of rows are the program's. -/
namespace K45
open PySem PySem.Spec PyProof.Rows L2
theorem op_mv : ∀ r ∈ RR, ∀ x ∈ List.range (placesL r).length, ∀ z ∈ List.range (placesL r).length, opI r (mvI r (pl r x) z) = dS r (pl r x) (pl r z) := by decide +kernel
theorem ds_lt {r : List Int} (h : r ∈ RR) {x z : Nat} (hx : x < (placesL r).length) (hz : z < (placesL r).length) : dS r (pl r x) (pl r z) < (placesL r).length := seat_lt (dif_all r h _ (at_pl hx).2 _ (at_pl hz).2).2.1
/-- a sum over the pairs that add up to one, by the first ones -/
theorem pair_first {r : List Int} (h : r ∈ RR) {x z : Nat} (hx : x < (placesL r).length) (hz : z < (placesL r).length) (f : Nat → Int) : sm (placesL r).length (fun y => if pI r x y = z then f y else 0) = f (mvI r (pl r x) z) := by
  have hs := (at_pl hx).2
  have m := mv_ok h hs hz
  have e : sm (placesL r).length (fun y => if pI r x y = z then f y else 0) = sm (placesL r).length (fun y => if y = mvI r (pl r x) z then f y else 0) := sm_congr fun y hy => by
    have g := fw_ok h hs hy
    have ep : pI r x y = fwI r (pl r x) y := by rw [pI_comm]; rfl
    rw [ep]
    by_cases c : fwI r (pl r x) y = z
    · rw [if_pos c, if_pos (by rw [← c]; exact g.2.2.symm)]
    · rw [if_neg c, if_neg (fun q => c (by rw [q]; exact m.2))]
  rw [e, sm_delta, if_pos m.1]
theorem ng_sub {e : Int} (he : 0 < e) (i m : Nat) : (i + ng e m) % e.toNat = (((i : Int) - (m : Int)) % e).toNat % e.toNat := by
  have c1 := Int.emod_nonneg ((i : Int) - (m : Int)) (show e ≠ 0 by omega)
  apply Int.ofNat_inj.mp
  rw [Int.natCast_emod, Int.natCast_emod, Int.natCast_add, Int.toNat_of_nonneg c1, ng_cast he, Int.toNat_of_nonneg (show 0 ≤ e by omega), Int.add_emod_emod, Int.emod_emod]
  congr 1
  omega
theorem mw_exv {r : List Int} (h : r ∈ RR) (u v : Nat → Int) {k : Nat} (hk : k < dg r) : mw r u (exv (ordL r) v) k = sm (dg r) (fun i => sm (dg r) (fun m => u i * v m * Tz (dg r) (polyL (ordL r)) k (((i : Int) - (m : Int)) % ordL r).toNat)) := by
  have T := tabs_of h
  refine sm_congr fun i _ => ?_
  have a : tn (dg r) (polyL (ordL r)) i (exv (ordL r) v) k = sm (dg r) (fun m => v m * Tz (dg r) (polyL (ordL r)) k (i + ng (ordL r) m)) := by
    have q : tn (dg r) (polyL (ordL r)) i (exv (ordL r) v) k = sm (dg r) (fun m => tn (dg r) (polyL (ordL r)) i (fun j => v m * Tz (dg r) (polyL (ordL r)) j (ng (ordL r) m)) k) := tn_sm _ _ _ _ _ (fun m j => v m * Tz (dg r) (polyL (ordL r)) j (ng (ordL r) m))
    rw [q]
    refine sm_congr fun m _ => ?_
    rw [tn_mul, tn_T _ _ _ _ T.d1]
  show u i * tn (dg r) (polyL (ordL r)) i (exv (ordL r) v) k = _
  rw [a, ← sm_mul]
  refine sm_congr fun m _ => ?_
  rw [T_eqv (T.per k hk) (ng_sub T.e0 i m), Int.mul_assoc]
/-- what stands at a place of the differences -/
def Dv (r : List Int) (u : Nat → Nat → Int) (z k : Nat) : Int := sm (placesL r).length (fun x => mw r (u x) (exv (ordL r) (u (dS r (pl r x) (pl r z)))) k)
theorem dfr_rep {r : List Int} (h : r ∈ RR) {a : List Num} (A : RowC r a) {M : Int} {u : Nat → Nat → Int} (hu : ∀ (i : Nat) n, a[i]? = some n → Rp (dg r) n M (u i)) {z : Nat} {n : Num} (hn : (dfrL r a)[z]? = some n) : Rp (dg r) n (M * M) (Dv r u z) := by
  have ta := rowC_tm h A
  have hz : z < (placesL r).length := by rw [← mixL_len h A ta]; exact ltL hn
  have q := Rp_mix h A ta hu (v := fun i => exv (ordL r) (u (opI r i))) (fun i n e => by
    obtain ⟨m, hm, rfl⟩ := tr_some e
    obtain ⟨_, hm2⟩ := mir_some h A.len hm
    exact Rp_ex h (A.num m (List.mem_of_getElem? hm2)) (hu _ _ hm2)) hn
  refine Rp_congr (fun k hk => ?_) q
  refine sm_congr fun x hx => ?_
  have e := pair_first h hx hz (fun y => mw r (u x) (exv (ordL r) (u (opI r y))) k)
  refine Eq.trans e ?_
  rw [op_mv r h x (List.mem_range.mpr hx) z (List.mem_range.mpr hz)]
theorem dfr_at {r : List Int} (h : r ∈ RR) {a : List Num} (A : RowC r a) {z : Nat} {n : Num} (hn : (dfrL r a)[z]? = some n) : Rp (dg r) n (levB a * levB a) (Dv r (wv (levT a)) z) := dfr_rep h A (fun i n e => Rp_lev A e) hn
end K45

/-! Whole numbers; the voices of a subgroup. -/
namespace K45
open PySem PySem.Spec PyProof.Rows L2
theorem rof_eq {r : List Int} (hr : r ∈ RR) (x : Int) : lowL (redL [x] (polyL (ordL r))) 1 = whN r x := by
  rw [low_one, red_whole (poly_len hr).1]
  rfl
theorem numC_wh {r : List Int} (h : r ∈ RR) (x : Int) : NumC (dg r) (whN r x) := by
  rw [← rof_eq h]
  exact numC_low (by decide) (redL_len' (by have := poly_len h; omega))
theorem wh_get {r : List Int} (h : r ∈ RR) (x : Int) {k : Nat} (hk : k < dg r) : (whN r x).1.getD k 0 = if k = 0 then x else 0 := by
  unfold whN
  cases k with
  | zero => rfl
  | succ k =>
    rw [List.getD_eq_getElem?_getD, List.getElem?_cons_succ, List.getElem?_replicate]
    split <;> simp
theorem mw_wh {r : List Int} (h : r ∈ RR) (u : Nat → Int) (x : Int) {j : Nat} (hj : j < dg r) : mw r u (fun k => (whN r x).1.getD k 0) j = x * u j := by
  have d1 := (tabs_of h).d1
  have e1 : ∀ i, i < dg r → u i * tn (dg r) (polyL (ordL r)) i (fun k => (whN r x).1.getD k 0) j = if i = j then x * u i else 0 := fun i hi => by
    have a : tn (dg r) (polyL (ordL r)) i (fun k => (whN r x).1.getD k 0) j = sm (dg r) (fun k => if k = 0 then x * Tz (dg r) (polyL (ordL r)) j (i + k) else 0) := sm_congr fun k hk => by
      show (whN r x).1.getD k 0 * _ = _
      rw [wh_get h x hk]
      split
      · rfl
      · exact Int.zero_mul _
    rw [a, sm_delta (f := fun k => x * Tz (dg r) (polyL (ordL r)) j (i + k)), if_pos (by omega), Nat.add_zero, T_lo hi]
    by_cases c : i = j
    · rw [if_pos c, if_pos c, Int.mul_one, Int.mul_comm]
    · rw [if_neg c, if_neg c, Int.mul_zero, Int.mul_zero]
  unfold mw
  rw [sm_congr e1, sm_delta (f := fun i => x * u i), if_pos hj]
theorem rowC_rof {r : List Int} (h : r ∈ RR) {xs : List Int} (hl : xs.length = (placesL r).length) : RowC r (rofL r xs) := by
  refine ⟨by unfold rofL; rw [List.length_map, hl], fun n hn => ?_⟩
  obtain ⟨x, _, rfl⟩ := List.mem_map.mp hn
  exact numC_wh h x
theorem Rp_rof {r : List Int} (h : r ∈ RR) {xs : List Int} {i : Nat} {n : Num} (hn : (rofL r xs)[i]? = some n) : Rp (dg r) n 1 (fun k => if k = 0 then xs.getD i 0 else 0) := by
  unfold rofL at hn
  rw [List.getElem?_map] at hn
  obtain ⟨x, hx, rfl⟩ := Option.map_eq_some_iff.mp hn
  intro k hk
  have e : xs.getD i 0 = x := by
    rw [List.getD_eq_getElem?_getD, hx]
    rfl
  show (whN r x).2 * (if k = 0 then xs.getD i 0 else 0) = 1 * (whN r x).1.getD k 0
  rw [wh_get h x hk, e]
  rfl
end K45

/-! Differences of lots, as integers. -/
namespace K45
open PySem PySem.Spec PyProof.Rows L2
theorem ds_inv : ∀ r ∈ RR, ∀ x ∈ List.range (placesL r).length, ∀ z ∈ List.range (placesL r).length, dS r (pl r x) (pl r (dS r (pl r x) (pl r z))) = z := by decide +kernel
theorem ds_zero : ∀ r ∈ RR, ∀ x ∈ List.range (placesL r).length, dS r (pl r x) (pl r 0) = x := by decide +kernel
section
variable {r : List Int} {ps : List (List Int)}
theorem sum_sm : ∀ (n : Nat) (f : Nat → Int), ((List.range n).map f).sum = sm n f
  | 0, _ => rfl
  | n + 1, f => by
    rw [List.range_succ, List.map_append, List.sum_append, sum_sm n f]
    show sm n f + (f n + 0) = sm n f + f n
    omega
theorem ctL_get (r xs : List Int) {z : Nat} (hz : z < (placesL r).length) : (ctL r xs).getD z 0 = sm (placesL r).length (fun i => xs.getD i 0 * xs.getD (dS r (pl r i) (pl r z)) 0) := by
  unfold ctL
  rw [List.getD_eq_getElem?_getD, List.getElem?_map, (at_pl hz).1]
  exact sum_sm _ _
theorem list_sm (xs : List Int) : xs.sum = sm xs.length (fun i => xs.getD i 0) := by
  rw [← sum_sm]
  congr 1
  refine List.ext_getElem? fun i => ?_
  rw [List.getElem?_map]
  rcases Nat.lt_or_ge i xs.length with z | z
  · rw [List.getElem?_range z, List.getElem?_eq_getElem z]
    show some _ = some (xs.getD i 0)
    rw [List.getD_eq_getElem?_getD, List.getElem?_eq_getElem z]
    rfl
  · rw [List.getElem?_eq_none_iff.mpr z, List.getElem?_eq_none_iff.mpr (by rw [List.length_range]; exact z)]
    rfl
theorem ng_zero {e : Int} : ng e 0 = 0 := by
  unfold ng
  simp
theorem exv_one (h : r ∈ RR) (y : Int) {j : Nat} (hj : j < dg r) : exv (ordL r) (fun k => if k = 0 then y else 0) j = if j = 0 then y else 0 := by
  have d1 := (tabs_of h).d1
  have e : exv (ordL r) (fun k => if k = 0 then y else 0) j = sm (dg r) (fun m => if m = 0 then y * Tz (dg r) (polyL (ordL r)) j (ng (ordL r) m) else 0) := sm_congr fun m _ => by
    show (if m = 0 then y else 0) * _ = _
    split
    · rfl
    · exact Int.zero_mul _
  rw [e, sm_delta (f := fun m => y * Tz (dg r) (polyL (ordL r)) j (ng (ordL r) m)), if_pos (by omega), ng_zero, T_lo (by omega)]
  by_cases c : j = 0
  · rw [if_pos c, if_pos c.symm, Int.mul_one]
  · rw [if_neg c, if_neg (fun q => c q.symm), Int.mul_zero]
theorem mw_one (h : r ∈ RR) (x : Int) (v : Nat → Int) {j : Nat} (hj : j < dg r) : mw r (fun k => if k = 0 then x else 0) v j = x * v j := by
  have d1 := (tabs_of h).d1
  have e : mw r (fun k => if k = 0 then x else 0) v j = sm (dg r) (fun i => if i = 0 then x * tn (dg r) (polyL (ordL r)) i v j else 0) := sm_congr fun i _ => by
    show (if i = 0 then x else 0) * _ = _
    split
    · rfl
    · exact Int.zero_mul _
  rw [e, sm_delta (f := fun i => x * tn (dg r) (polyL (ordL r)) i v j), if_pos (by omega), tn_zero hj]
theorem ctL_len (r xs : List Int) : (ctL r xs).length = (placesL r).length := by rw [ctL, List.length_map]
theorem dfr_rof (h : r ∈ RR) {xs : List Int} (hl : xs.length = (placesL r).length) : dfrL r (rofL r xs) = rofL r (ctL r xs) := by
  have A := rowC_rof h hl
  refine rows_eq (rowC_mix h A (rowC_tm h A)) (rowC_rof h (ctL_len r xs)) (M := 1) (by decide) (w := fun i k => if k = 0 then (ctL r xs).getD i 0 else 0) (fun i n hn => ?_) (fun i n hn => Rp_rof h hn)
  have hz : i < (placesL r).length := by rw [← mixL_len h A (rowC_tm h A)]; exact ltL hn
  have q := dfr_rep h A (fun i n e => Rp_rof h e) hn
  refine Rp_congr (fun k hk => ?_) q
  have e : ∀ x, x < (placesL r).length → mw r (fun k => if k = 0 then xs.getD x 0 else 0) (exv (ordL r) (fun k => if k = 0 then xs.getD (dS r (pl r x) (pl r i)) 0 else 0)) k = (if k = 0 then 1 else 0) * (xs.getD x 0 * xs.getD (dS r (pl r x) (pl r i)) 0) := fun x _ => by
    rw [mw_one h _ _ hk, exv_one h _ hk]
    split
    · rw [Int.one_mul]
    · rw [Int.zero_mul, Int.mul_zero]
  show sm (placesL r).length _ = _
  rw [sm_congr e, sm_mul, ctL_get r xs hz]
  split
  · rw [Int.one_mul]
  · rw [Int.zero_mul]
end
end K45

/-! row_back, voice. -/
namespace K45
open PySem PySem.Spec PyProof.Rows L2
section
variable {P : Program} {w : World} {K : PySem.W.Frag} {mg : Str → Option Value} {base : Heap} {f f1 f2 f3 f4 f5 C fI fM : Addr} {fd fd1 fd2 fd3 fd4 fd5 fdI : FuncData}
def voN1 (r : List Int) (ns : List Num) (l : List Int) : Num := lowL (tsL r 1 l (levT ns)) (levB ns)
def spVoice (K : PySem.W.Frag) : Sp := fun vs H Q _ => ∃ (v u z : V) (r : List Int) (ns : List Num) (l : List Int), vs = [v, u, z] ∧ TupI K H v r ∧ RowAt K H u ns ∧ TupI K H z l ∧ r ∈ RR ∧ RowG r ns ∧ l ∈ placesL r ∧ ∀ v' H', Same H H' → NumAt K H' v' (voN1 r ns l) → Q v' H'
abbrev vcN : List Str := ["rings", "row", "label", "floor", "items", "bottom"]
theorem scVoice : FnScope vcN ["rings", "row", "label"] (defScope sVoice) := ⟨rfl, rfl, rfl, by decide +kernel, rfl, by decide +kernel, by decide +kernel⟩
theorem ok_voice (F : FnP K "voice" sVoice f fd) (T : FlT K mg C fI fM) (FI : FunD K "__init__" "Floor.__init__" (defArgs sFInit) (defBody sFInit) (defScope sFInit) [] [] fI fdI) (GI : FnOk P w K mg base CX0 3 fI fdI ["self", "rings"] (spFInit K C))
    (F1 : FnP K "check_row" sChkRow f1 fd1) (g1 : mg "check_row" = some (.ref f1)) (G1 : FnOk P w K mg base CX0 7 f1 fd1 ["rings", "row"] (spRow K .non)) (F2 : FnP K "check_place" sChkP f2 fd2) (g2 : mg "check_place" = some (.ref f2)) (G2 : FnOk P w K mg base CX0 5 f2 fd2 ["rings", "place"] (spChkP K))
    (F3 : FnP K "levelled" sLev f3 fd3) (g3 : mg "levelled" = some (.ref f3)) (G3 : FnOk P w K mg base CX0 1 f3 fd3 ["numbers"] (spLev K)) (F4 : FnP K "turned_sum" sTSum f4 fd4) (g4 : mg "turned_sum" = some (.ref f4)) (G4 : FnOk P w K mg base CX0 3 f4 fd4 ["floor", "items", "places", "label", "sign"] (spTS K C))
    (F5 : FnP K "lowered" sLow f5 fd5) (g5 : mg "lowered" = some (.ref f5)) (G5 : FnOk P w K mg base CX0 1 f5 fd5 ["tops", "bottom"] (spLow K)) : FnOk P w K mg base CX0 8 f fd ["rings", "row", "label"] (spVoice K) := by
  have bI : Binds K fdI ["self", "rings"] [] := FI.bindsN fun _ _ _ _ _ _ us hl => match us, hl with | [_, _], _ => rfl
  have b1 : Binds K fd1 ["rings", "row"] [] := F1.bindsN fun _ _ _ _ _ _ us hl => match us, hl with | [_, _], _ => rfl
  have b2 : Binds K fd2 ["rings", "place"] [] := F2.bindsN fun _ _ _ _ _ _ us hl => match us, hl with | [_, _], _ => rfl
  have b3 : Binds K fd3 ["numbers"] [] := F3.bindsN fun _ _ _ _ _ _ us hl => match us, hl with | [_], _ => rfl
  have b4 : Binds K fd4 ["floor", "items", "places", "label", "sign"] [] := F4.bindsN fun _ _ _ _ _ _ us hl => match us, hl with | [_, _, _, _, _], _ => rfl
  have b5 : Binds K fd5 ["tops", "bottom"] [] := F5.bindsN fun _ _ _ _ _ _ us hl => match us, hl with | [_, _], _ => rfl
  refine F.ok scVoice (fun vs H Q E h => ?_) (fun cdv A outer s H vs Q E hr h => ?_)
  · obtain ⟨v, u, z, r, ns, l, rfl, _⟩ := h
    rfl
  · obtain ⟨v, u, z, r, ns, l, rfl, ⟨a, rfl, ha⟩, hR, hz, h14, ro, hl, k⟩ := h
    refine ⟨_, PSs.nox (pss_cons (ps_expr (pe_call G1 hr rfl g1 F1.kp b1 .nil pass0 (pa_cons (pv 0) (pa_cons (pv 1) pa_nil))))
      (pss_cons (ps_expr (pe_call G2 (hr.mono (by decide)) rfl g2 F2.kp b2 .nil pass0 (pa_cons (pv 0) (pa_cons (pv 2) pa_nil))))
      (pss_cons (ps_set (i := 3) scVoice.nd rfl (Or.inl rfl) (pe_make T.mkk GI (hr.mono (by decide)) rfl T.mgC bI .nil pass0 (pa_cons (pv 0) pa_nil)))
      (pss_cons (ps_asg (pe_call G3 (hr.mono (by decide)) rfl g3 F3.kp b3 .nil pass0 (pa_cons (pv 1) pa_nil)) (pg_tup rfl (pgs_cons (pg_name (i := 4) scVoice.nd rfl (Or.inl rfl)) (pgs_cons (pg_name (i := 5) scVoice.nd rfl (Or.inl rfl)) pgs_nil))))
      (pss_one (ps_ret (pe_call G5 (hr.mono (by decide)) rfl g5 F5.kp b5 .nil pass0 (pa_cons (pe_call G4 (hr.mono (by decide)) rfl g4 F4.kp b4 .nil pass0 (pa_cons (pv 3) (pa_cons (pv 4) (pa_cons (pe_fld (pv 3) rfl) (pa_cons (pv 2) (pa_cons pe_int pa_nil)))))) (pa_cons (pv 5) pa_nil))))))))), ?_⟩
    refine ⟨_, rfl, _, rfl, _, _, r, ns, rfl, ⟨a, rfl, ha⟩, hR, h14, ro, fun H0 s0 => ?_⟩
    refine ⟨_, rfl, _, rfl, _, _, r, l, rfl, ⟨a, rfl, s0.tup ha⟩, s0.tupI hz, h14, hl, fun H1 s1' => ?_⟩
    have s1 := s0.trans s1'
    refine ⟨_, rfl, fun p dx np ndx nex => ?_⟩
    have tn : Same H1 (upd (upd H1 dx (.own p)) p (.ins C dx [])) := same_new (same_upd ndx) (by rw [upd_ne (Ne.symm nex)]; exact np)
    refine ⟨p, dx, _, r, rfl, upd_same, ⟨a, rfl, tn.tup (s1.tup ha)⟩, h14, fun H3 hF kp => ⟨rfl, ?_⟩⟩
    have s3 : Same H1 H3 := Same.made np ndx kp
    have t3 := s1.trans s3
    have h16 := rr_pl0 r h14
    have lns := ro.ok.len
    have bB := ro.ok.lev ns.length (Nat.le_refl _)
    rw [List.take_length] at bB
    refine ⟨_, rfl, _, ns, rfl, t3.row hR, by omega, ro.ok.item, ro.ok.lev, fun pt t ts H4 s4 hpt nt ht tt => ?_⟩
    refine ⟨pt, _, rfl, hpt, rfl, _, _, rfl, _, _, rfl, rfl, ?_⟩
    have hF4 := s4.floor hF
    obtain ⟨dx', ar, po, pl, h1, h2, h3, h4⟩ := id hF4
    have few : ∀ ts ∈ levT ns, ts.length ≤ 1000 := fun ts hts => by
      unfold levT at hts
      obtain ⟨n, hn, rfl⟩ := List.mem_map.mp hts
      rw [List.length_map]
      exact (ro.ok.item n hn).2.2
    have lvl : (levT ns).length = (placesL r).length := by
      unfold levT
      rw [List.length_map, ro.ok.len]
    have t4 := t3.trans s4
    refine ⟨_, rfl, _, rfl, _, rfl, p, C, dx', _, _, rfl, h1, T.cl, T.aL, g_places, _, rfl, p, t, pl, _, ts, r, l, levT ns, 1, rfl, by decide, by decide, hF4, SqL.of ht, tt, h4, t4.tupI hz, hl, h14, lvl, few, fun t2 H5 s5 nt2 ht2 => ?_⟩
    exact ⟨_, rfl, t2, _, levB ns, rfl, .inr (SqT.of ht2), by omega, by omega, tsL_len h14 _ _ _, fun v' H6 s6 hv' => k v' H6 ((t4.trans s5).trans s6) hv'⟩
end
end K45

/-! Comparisons; loudnesses of a whole row by labels; judge_flat. -/
namespace K45
open PySem PySem.Spec PyProof.Rows L2
abbrev ltI (ns ms : List Int) : Bool := PySem.W.dataLt (intsD ns) (intsD ms)
theorem alike_all : ∀ a b : List Int, PySem.W.alikeAll (a.map PyData.int) (b.map PyData.int) = true
  | [], _ => rfl
  | _ :: _, [] => rfl
  | x :: a, y :: b => by
    rw [List.map_cons, List.map_cons, PySem.W.alikeAll, alike_all a b]
    rfl
theorem alike_ints (a b : List Int) : PySem.W.alike (intsD a) (intsD b) = true := by
  show PySem.W.alikeAll _ _ = true
  exact alike_all a b
theorem ints_dp (a : List Int) : (intsD a).depth ≤ 2 := by
  have := ints_depth a
  simp only [PyData.depth]
  omega
section
variable {X : Cx}
def rLtI (K : PySem.W.Frag) : R2 := fun x y H Q => ∃ ns ms, TupI K H x ns ∧ TupI K H y ms ∧ Q (.bl (ltI ns ms)) H
theorem op_ltI (hu : X.A.units + 64 < cLine) : OpR X (compareOp .Lt) (rLtI X.K) := by
  intro pins s σ H x y v u Q I rx ry h
  obtain ⟨ns, ms, ⟨a, rfl, ha⟩, ⟨b, rfl, hb⟩, q⟩ := h
  obtain ⟨as, r1⟩ := Dp.reads I (intsD ns) (.ref a) v (.tup ha (dp_ints ns)) rx
  obtain ⟨bs, r2⟩ := Dp.reads I (intsD ms) (.ref b) u (.tup hb (dp_ints ms)) ry
  have h1 := ints_dp ns
  exact PySem.W.lt_data r1 r2 (alike_ints ns ms) (by simp) (by have := Nat.min_le_left (intsD ns).depth (intsD ms).depth; omega) ⟨.bl _, H, I, rfl, q⟩
def rGeI (K : PySem.W.Frag) : R2 := fun x y H Q => ∃ ns ms, TupI K H x ns ∧ TupI K H y ms ∧ Q (.bl (!ltI ns ms)) H
theorem op_geI (hu : X.A.units + 64 < cLine) : OpR X (compareOp .GtE) (rGeI X.K) := by
  intro pins s σ H x y v u Q I rx ry h
  obtain ⟨ns, ms, ⟨a, rfl, ha⟩, ⟨b, rfl, hb⟩, q⟩ := h
  obtain ⟨as, r1⟩ := Dp.reads I (intsD ns) (.ref a) v (.tup ha (dp_ints ns)) rx
  obtain ⟨bs, r2⟩ := Dp.reads I (intsD ms) (.ref b) u (.tup hb (dp_ints ms)) ry
  have h1 := ints_dp ns
  exact PySem.W.ge_data r1 r2 (alike_ints ns ms) (by simp) (by have := Nat.min_le_left (intsD ns).depth (intsD ms).depth; omega) ⟨.bl _, H, I, rfl, q⟩
end
/-- a row of whole numbers' loudnesses, by labels -/
def LdL (r xs : List Int) : List Num := (voL r (rofL r xs)).map (loudL (ordL r))
theorem LdL_len (r xs : List Int) : (LdL r xs).length = (placesL r).length := by
  unfold LdL
  rw [List.length_map, voL_len]
/-- such a dict -/
def LdAt (K : PySem.W.Frag) (H : Hp) (D : Addr) (r xs : List Int) : Prop := ∃ vs, H D = some (.dT (tabK (placesL r) vs)) ∧ Nums K H vs (LdL r xs)
theorem LdAt.same {K : PySem.W.Frag} {H H' : Hp} {D : Addr} {r xs : List Int} (h : LdAt K H D r xs) (e : Same H H') : LdAt K H' D r xs := by
  obtain ⟨vs, h1, h2⟩ := h
  exact ⟨vs, e _ _ h1, e.nums h2⟩
/-- what stands at a label -/
theorem LdAt.get {K : PySem.W.Frag} {H : Hp} {D p : Addr} {r xs x : List Int} (h : LdAt K H D r xs) (hr : r ∈ RR) {j : Nat} (hx : (placesL r)[j]? = some x) (hp : H p = some (.tup (x.map V.int))) : ∃ v n, DGet H D (.ref p) (some v) ∧ NumAt K H v n ∧ (LdL r xs)[j]? = some n := by
  obtain ⟨vs, h1, h2⟩ := h
  have jl := ltL hx
  have vl := h2.1
  rw [LdL_len] at vl
  obtain ⟨v, hv⟩ : ∃ v, vs[j]? = some v := ⟨_, List.getElem?_eq_getElem (by omega)⟩
  obtain ⟨n, hn⟩ : ∃ n, (LdL r xs)[j]? = some n := ⟨_, List.getElem?_eq_getElem (by rw [LdL_len]; exact jl)⟩
  refine ⟨v, n, ?_, h2.2 j v n hv hn, hn⟩
  rw [← tabK_val (rr_nd r hr) hx hv]
  exact DGet.t (k := kT x) h1 (by rw [kT_V]; exact hp)
theorem keys_get {H : Hp} : ∀ {ps : List (List Int)} {vs : List V} {bs : List Addr}, ps.length = vs.length → IsKeys H (tabK ps vs) bs → bs.length = ps.length ∧ ∀ (j : Nat) x b, ps[j]? = some x → bs[j]? = some b → H b = some (.tup (x.map V.int))
  | [], vs, bs, hl, h => by
    cases vs with
    | nil =>
      cases h
      exact ⟨rfl, fun j x b e => by simp at e⟩
    | cons _ _ => simp at hl
  | p :: ps, vs, bs, hl, h => by
    cases vs with
    | nil => simp at hl
    | cons v vs =>
      cases bs with
      | nil => cases h
      | cons b bs =>
        have h' : Paired (fun (p : List Key × V) b => H b = some (.tup (p.1.map kV))) ((kT p, v) :: tabK ps vs) (b :: bs) := h
        cases h' with
        | cons h1 h2 =>
          obtain ⟨l, g⟩ := keys_get (ps := ps) (vs := vs) (bs := bs) (by simpa using hl) h2
          refine ⟨by simp [l], fun j x c e1 e2 => ?_⟩
          cases j with
          | zero =>
            have f1 : p = x := by simpa using e1
            have f2 : b = c := by simpa using e2
            subst f1 f2
            have h1' : H b = some (.tup ((kT p).map kV)) := h1
            rw [kT_V] at h1'
            exact h1'
          | succ j => exact g j x c (by simpa using e1) (by simpa using e2)
section
variable {P : Program} {w : World} {K : PySem.W.Frag} {mg : Str → Option Value} {base : Heap} {f f1 f2 f3 f4 f5 C fI fM fT : Addr} {fd fd1 fd2 fd3 fd4 fd5 fdI fdT : FuncData}
/-- a whole row whose loudnesses can be told -/
structure WhOk (r xs : List Int) : Prop where
  len : xs.length = (placesL r).length
  ok : RowOk r (rofL r xs)
  num : ∀ n ∈ voL r (rofL r xs), NumOk (ordL r) n ∧ ∀ t ∈ n.1, -(2 ^ 64) < t ∧ t < 2 ^ 64
def spLouds (K : PySem.W.Frag) : Sp := fun vs H Q _ => ∃ (v u : V) (r xs : List Int), vs = [v, u] ∧ TupI K H v r ∧ TupI K H u xs ∧ r ∈ RR ∧ WhOk r xs ∧ ∀ D H', Same H H' → H D = none → LdAt K H' D r xs → Q (.ref D) H'
abbrev lsN' : List Str := ["rings", "whole", "floor", "sounds", "label", "number"]
theorem scLouds : FnScope lsN' ["rings", "whole"] (defScope sLouds) := ⟨rfl, rfl, rfl, by decide +kernel, rfl, by decide +kernel, by decide +kernel⟩
theorem ok_louds (F : FnP K "_loudnesses" sLouds f fd) (B : Bl mg) (T : FlT K mg C fI fM) (FI : FunD K "__init__" "Floor.__init__" (defArgs sFInit) (defBody sFInit) (defScope sFInit) [] [] fI fdI) (GI : FnOk P w K mg base CX0 3 fI fdI ["self", "rings"] (spFInit K C))
    (F1 : FnP K "check_whole" sChkWhole f1 fd1) (g1 : mg "check_whole" = some (.ref f1)) (G1 : FnOk P w K mg base CX0 7 f1 fd1 ["rings", "whole"] (spWhole K .non))
    (F2 : FnP K "voices_of" sVOf f2 fd2) (g2 : mg "voices_of" = some (.ref f2)) (G2 : FnOk P w K mg base CX0 4 f2 fd2 ["floor", "row"] (spVO K C))
    (F3 : FnP K "row_of" sRowOf f3 fd3) (g3 : mg "row_of" = some (.ref f3)) (G3 : FnOk P w K mg base CX0 8 f3 fd3 ["rings", "whole"] (spRO K))
    (F4 : FnP K "loudness" sLoud f4 fd4) (g4 : mg "loudness" = some (.ref f4)) (G4 : FnOk P w K mg base CX0 6 f4 fd4 ["order", "number"] (spLoud K)) :
    FnOk P w K mg base CX0 9 f fd ["rings", "whole"] (spLouds K) := by
  have bI : Binds K fdI ["self", "rings"] [] := FI.bindsN fun _ _ _ _ _ _ us hl => match us, hl with | [_, _], _ => rfl
  have b1 : Binds K fd1 ["rings", "whole"] [] := F1.bindsN fun _ _ _ _ _ _ us hl => match us, hl with | [_, _], _ => rfl
  have b2 : Binds K fd2 ["floor", "row"] [] := F2.bindsN fun _ _ _ _ _ _ us hl => match us, hl with | [_, _], _ => rfl
  have b3 : Binds K fd3 ["rings", "whole"] [] := F3.bindsN fun _ _ _ _ _ _ us hl => match us, hl with | [_, _], _ => rfl
  have b4 : Binds K fd4 ["order", "number"] [] := F4.bindsN fun _ _ _ _ _ _ us hl => match us, hl with | [_, _], _ => rfl
  refine F.ok scLouds (fun vs H Q E h => ?_) (fun cdv A outer s H vs Q E hr h => ?_)
  · obtain ⟨v, u, r, xs, rfl, _⟩ := h
    rfl
  · obtain ⟨v, u, r, xs, rfl, ⟨a, rfl, ha⟩, hu', h14, wo, k⟩ := h
    refine ⟨_, PSs.nox (pss_cons (ps_expr (pe_call G1 (hr.mono (by decide)) (by rfl) g1 F1.kp b1 .nil pass0 (pa_cons (pv 0) (pa_cons (pv 1) pa_nil))))
      (pss_cons (ps_set (i := 2) scLouds.nd rfl (Or.inr rfl) (pe_make T.mkk GI (hr.mono (by decide)) (by rfl) T.mgC bI .nil pass0 (pa_cons (pv 0) pa_nil)))
      (pss_cons (ps_set (i := 3) scLouds.nd rfl (Or.inl rfl) (pe_call G2 (hr.mono (by decide)) (by rfl) g2 F2.kp b2 .nil pass0 (pa_cons (pv 2) (pa_cons (pe_call G3 hr (by rfl) g3 F3.kp b3 .nil pass0 (pa_cons (pv 0) (pa_cons (pv 1) pa_nil))) pa_nil))))
      (pss_one (ps_ret (pe_dcT (own := [("label", 4), ("number", 5)]) (g := gTup K 2 (gCons (gName 4) (gCons (gName 5) gNil))) (tt := tYes) (tk := tVar 4) (tv := tCall (spLoud K) [] E0 (tCons (tFld K (tVar 2) "order") (tCons (tVar 5) tNil))) rfl (Nat.lt_of_le_of_lt (Nat.add_le_add_left (by decide) _) hr.units) scLouds.nd
        (pi_zipM (by rfl) (B "zip" (by decide +kernel)) (pa_cons (pe_fld (pv 2) rfl) (pa_cons (pv 3) pa_nil))) (blkOk_by (own := [("label", 4), ("number", 5)]) (N := lsN') (sc := defScope sLouds) (by decide +kernel))
        (fun _ _ _ _ _ => pg_tup rfl (pgs_cons (pg_name (i := 4) scLouds.nd rfl (Or.inl rfl)) (pgs_cons (pg_name (i := 5) scLouds.nd rfl (Or.inl rfl)) pgs_nil))) (fun _ _ _ _ _ => pts_nil) (fun _ _ _ _ _ => pv 4)
        (fun _ _ _ _ _ => pe_call G4 (hr.mono (by decide)) (by rfl) g4 F4.kp b4 .nil pass0 (pa_cons (pe_fld (pv 2) rfl) (pa_cons (pv 5) pa_nil))))))))), ?_⟩
    refine ⟨_, rfl, _, rfl, _, _, r, xs, rfl, ⟨a, rfl, ha⟩, hu', h14, wo.len, fun H1 s1 => ?_⟩
    refine ⟨_, rfl, fun p dx np ndx nex => ?_⟩
    have tn : Same H1 (upd (upd H1 dx (.own p)) p (.ins C dx [])) := same_new (same_upd ndx) (by rw [upd_ne (Ne.symm nex)]; exact np)
    refine ⟨p, dx, _, r, rfl, upd_same, ⟨a, rfl, tn.tup (s1.tup ha)⟩, h14, fun H3 hF kp => ⟨rfl, ?_⟩⟩
    have s3 : Same H1 H3 := Same.made np ndx kp
    have t3 := s1.trans s3
    refine ⟨_, rfl, _, rfl, _, rfl, _, _, r, xs, rfl, ⟨a, rfl, t3.tup ha⟩, t3.tupI hu', h14, wo.len, fun v4 H4 s4 hv4 => ?_⟩
    refine ⟨p, v4, r, rofL r xs, rfl, s4.floor hF, hv4, h14, wo.ok, fun v5 H5 s5 hv5 => ?_⟩
    obtain ⟨dx', ar, po, pl, h1, h2, h3, ks, hk1, hk2, hk3⟩ := (s4.trans s5).floor hF
    have t5 := (t3.trans s4).trans s5
    obtain ⟨q, us, rfl, hq, hN⟩ := hv5
    have kl : ks.length = (placesL r).length := by rw [← hk2, List.length_map]
    have vl : (voL r (rofL r xs)).length = (placesL r).length := voL_len r _
    have h16 := rr_pl0 r h14
    have nd := rr_nd r h14
    refine ⟨_, rfl, p, C, dx', _, _, rfl, h1, T.cl, T.aL, g_places, _, rfl, pl, q, rf ks, us, rfl, SqL.of hk1, hq, fun D hD => ?_⟩
    refine dcT_it (walk_zipM (K := K) (a := pl) (b := q) (xs := rf ks) (ys := us) (by rw [hN.1, vl, List.length_map, kl])) (fun i H6 => Same H5 H6 ∧ ∃ vs, H6 D = some (.dT (tabK ((placesL r).take i) vs)) ∧ Nums K H6 vs ((LdL r xs).take i)) ⟨same_upd hD, [], upd_same, by rw [List.take_zero]; exact nums_nil⟩ (fun i H6 _ ⟨s6, _⟩ => ⟨SqL.of (s6 _ _ hk1), s6.tup hq⟩) ?_ ?_
    · rintro i x H6 H7 hi ⟨s6, vs, gD, nu⟩ ⟨Tt, x1, x2, rfl, nT, rfl, e1, e2⟩
      obtain ⟨kq, rfl, hkq⟩ := getR e1
      obtain ⟨n, hn, hnum⟩ := hN.get e2
      have hq2 : (placesL r)[i]? = some kq.2 := by rw [← hk2, List.getElem?_map, hkq]; rfl
      have il := ltL hq2
      have nm := List.mem_of_getElem? hn
      have sT : Same H6 (upd H6 Tt (.tup [.ref kq.1, x2])) := same_upd nT
      generalize hH7 : upd H6 Tt (.tup [.ref kq.1, x2]) = H7 at sT
      have gT : H7 Tt = some (.tup [.ref kq.1, x2]) := by rw [← hH7, upd_same]
      have s7 := s6.trans sT
      refine ⟨Tt, _, rfl, SqT.of gT, rfl, _, _, rfl, _, _, rfl, rfl, ?_⟩
      refine ⟨rfl, _, rfl, _, rfl, p, C, dx', _, _, rfl, s7 _ _ h1, T.cl, T.aO, g_order, _, rfl, ordL r, _, n, rfl, er_in r h14, s7.num hnum, (wo.num n nm).1, (wo.num n nm).2, fun v8 H8 s8 hv8 => ?_⟩
      have gD8 := (sT.trans s8) _ _ gD
      have ul := nu.1
      rw [List.length_take, LdL_len] at ul
      have ev : (LdL r xs)[i]? = some (loudL (ordL r) n) := by
        unfold LdL
        rw [List.getElem?_map, hn]
        rfl
      refine ⟨_, kT kq.2, kq.1, rfl, ?_, gD8, ?_, ?_⟩
      · rw [kT_V]
        exact (s7.trans s8) _ _ (hk3.out kq (List.mem_of_getElem? hkq))
      · rw [tabK_len (by rw [List.length_take]; omega)]
        exact sl_lt (by rw [List.length_take]; omega)
      · refine ⟨same_at (s7.trans s8) hD, vs ++ [v8], ?_, ?_⟩
        · rw [upd_same, tabK_snoc (by rw [List.length_take]; omega) (take_fresh nd hq2), takeS hq2]
        · rw [takeS ev]
          have nu8 := (sT.trans s8).nums nu
          have up : ∀ {a : Addr} {xs : List V} {o : HO}, SqT K H8 a xs → SqT K (upd H8 D o) a xs := fun h => by
            have off : ∀ {c : Addr} {p : HO}, H8 c = some p → (∀ z, p ≠ .dT z) → c ≠ D := fun e n => ne_of e gD8 (n _)
            rcases h with (h | ⟨u, h⟩) | h
            · exact .inl (.inl (by rw [upd_ne (off h fun z q => by cases q)]; exact h))
            · exact .inl (.inr ⟨u, by rw [upd_ne (off h fun z q => by cases q)]; exact h⟩)
            · exact .inr h
          have num_up : ∀ {v : V} {n : Num} {o : HO}, NumAt K H8 v n → NumAt K (upd H8 D o) v n := fun ⟨p', t', e', q1, q2⟩ => ⟨p', t', e', up q1, up q2⟩
          exact Nums.snoc ⟨nu8.1, fun i v n e1 e2 => num_up (nu8.2 i v n e1 e2)⟩ (num_up hv8)
    · rintro H6 ⟨s6, vs, gD, nu⟩
      have e1 : (rf ks).length = (placesL r).length := by rw [List.length_map, kl]
      rw [e1, List.take_length] at gD
      rw [e1, ← LdL_len r xs, List.take_length] at nu
      exact k D H6 (t5.trans s6) (t5.free hD) ⟨vs, gD, nu⟩
end
end K45

/-! judge_flat, flat_holds. -/
namespace K45
open PySem PySem.Spec PyProof.Rows L2
theorem num_eq2 (a b : Num) (h : a.1.length = b.1.length) : PyData.eqv (numD a) (numD b) = decide (a = b) := by
  have e2 : (a = b) ↔ (a.1 = b.1 ∧ a.2 = b.2) := Prod.ext_iff
  simp only [numD, PyData.eqv, PyData.eqvAll, List.length_cons, List.length_nil]
  rw [eqv_all a.1 b.1 h]
  rw [Bool.eq_iff_iff]
  simp [e2]
theorem Ld_num {r : List Int} (h : r ∈ RR) {xs : List Int} (hl : xs.length = (placesL r).length) : ∀ n ∈ LdL r xs, NumC (dg r) n := fun n hn => by
  obtain ⟨m, hm, rfl⟩ := List.mem_map.mp hn
  have c := (rowC_vo h (rowC_rof h hl)).num m hm
  exact numC_prod h c (numC_ex (ord_er r h) c)
theorem cut_one (xs : List V) : cutV xs (some (1 : Int)) none = xs.drop 1 := by
  unfold cutV
  have e1 : HT.sIx xs.length 0 (some (1 : Int)) = min 1 xs.length := HT.sIx_nat xs.length 0 1
  have e2 : HT.sIx xs.length xs.length none = xs.length := HT.sIx_none xs.length xs.length
  rw [e1, e2]
  by_cases c : 1 ≤ xs.length
  · rw [Nat.min_eq_left c]
    exact List.take_of_length_le (by rw [List.length_drop]; exact Nat.le_refl _)
  · have : xs.length = 0 := by omega
    have e : xs = [] := List.length_eq_zero_iff.mp this
    subst e
    rfl
/-- what judge_flat tells -/
def JR (K : PySem.W.Frag) (H : Hp) (v : V) (r xs : List Int) : Prop :=
  (∃ t n, v = .ref t ∧ SqT K H t [.str "flat", .int (n.1.getD 0 0)] ∧ (LdL r xs)[1]? = some n ∧ ∀ (j : Nat) m, 1 ≤ j → (LdL r xs)[j]? = some m → m = n)
  ∨ (∃ t p1 p2 j n1 nj, v = .ref t ∧ SqT K H t [.str "labels", .ref p1, .ref p2] ∧ H p1 = some (.tup ((pl r 1).map V.int)) ∧ H p2 = some (.tup ((pl r j).map V.int)) ∧ 1 < j ∧ j < (placesL r).length ∧ (LdL r xs)[1]? = some n1 ∧ (LdL r xs)[j]? = some nj ∧ nj ≠ n1)
theorem JR.same {K : PySem.W.Frag} {H H' : Hp} {v : V} {r xs : List Int} (h : JR K H v r xs) (e : Same H H') : JR K H' v r xs := by
  rcases h with ⟨t, n, rfl, h1, h2, h3⟩ | ⟨t, p1, p2, j, n1, nj, rfl, h1, h2, h3, h4⟩
  · exact .inl ⟨t, n, rfl, e.tup h1, h2, h3⟩
  · exact .inr ⟨t, p1, p2, j, n1, nj, rfl, e.tup h1, e _ _ h2, e _ _ h3, h4⟩
theorem pl_some : ∀ r ∈ RR, someN (pl r 1) = true := by decide +kernel
theorem pl_lt1 : ∀ r ∈ RR, ∀ j ∈ List.range (placesL r).length, 1 < j → ltI (pl r 1) (pl r j) = true := by decide +kernel
theorem two_pos : ∀ r ∈ RR, 1 < (placesL r).length := by decide +kernel
section
variable {P : Program} {w : World} {K : PySem.W.Frag} {mg : Str → Option Value} {base : Heap} {f f1 f2 f3 f4 f5 C fI fM fT : Addr} {fd fd1 fd2 fd3 fd4 fd5 fdI fdT : FuncData}
def spJudge (K : PySem.W.Frag) : Sp := fun vs H Q _ => ∃ (v u : V) (r xs : List Int), vs = [v, u] ∧ TupI K H v r ∧ TupI K H u xs ∧ r ∈ RR ∧ WhOk r xs ∧ ∀ v' H', Same H H' → JR K H' v' r xs → Q v' H'
abbrev jdN : List Str := ["rings", "whole", "found", "labels", "label", "tops", "_"]
theorem scJudge : FnScope jdN ["rings", "whole"] (defScope sJudge) := ⟨rfl, rfl, rfl, by decide +kernel, rfl, by decide +kernel, by decide +kernel⟩
theorem ok_judge (F : FnP K "judge_flat" sJudge f fd) (B : Bl mg) (F1 : FnP K "_loudnesses" sLouds f1 fd1) (g1 : mg "_loudnesses" = some (.ref f1)) (G1 : FnOk P w K mg base CX0 9 f1 fd1 ["rings", "whole"] (spLouds K)) :
    FnOk P w K mg base CX0 10 f fd ["rings", "whole"] (spJudge K) := by
  have b1 : Binds K fd1 ["rings", "whole"] [] := F1.bindsN fun _ _ _ _ _ _ us hl => match us, hl with | [_, _], _ => rfl
  refine F.ok scJudge (fun vs H Q E h => ?_) (fun cdv A outer s H vs Q E hr h => ?_)
  · obtain ⟨v, u, r, xs, rfl, _⟩ := h
    rfl
  · obtain ⟨v, u, r, xs, rfl, hv, hu', h14, wo, k⟩ := h
    have hu := hu_of hr
    have hu64 := hr.units
    refine ⟨_, PSs.nox (pss_cons (ps_set (i := 2) scJudge.nd rfl (Or.inl rfl) (pe_call G1 hr (by rfl) g1 F1.kp b1 .nil pass0 (pa_cons (pv 0) (pa_cons (pv 1) pa_nil))))
      (pss_cons (ps_set (i := 3) scJudge.nd rfl (Or.inl rfl) (pe_slice sl_list (pe_callTy (call_list_dT rfl) (by rfl) (B "list" (by decide +kernel)) (by decide +kernel) (pa_cons (pv 2) pa_nil)) (po_some pe_int) po_none))
      (pss_cons (ps_for PassesOwn.never rfl (pi_list (pv 3)) (pg_name (i := 4) scJudge.nd rfl (Or.inl rfl))
        (pss_one (ps_if (pt_cmpR (op_neD hu64) (pe_dget hu (pv 2) (pv 4) (fun _ _ => rfl)) (pe_dget hu (pv 2) (pe_ix ix_list (pv 3) pe_int (fun _ _ => rfl)) (fun _ _ => rfl)) (nomark _))
          (pss_one (ps_ret (pe_tup (pa_cons pe_str (pa_cons (pe_ix ix_list (pv 3) pe_int (fun _ _ => rfl)) (pa_cons (pv 4) pa_nil)))))) pss_nil)))
      (pss_cons (ps_asg (pe_dget hu (pv 2) (pe_ix ix_list (pv 3) pe_int (fun _ _ => rfl)) (fun _ _ => rfl)) (pg_tup rfl (pgs_cons (pg_name (i := 5) scJudge.nd rfl (Or.inl rfl)) (pgs_cons (pg_name (i := 6) scJudge.nd rfl (Or.inl rfl)) pgs_nil))))
      (pss_one (ps_ret (pe_tup (pa_cons pe_str (pa_cons (pe_ix ix_tup (pv 5) pe_int (fun _ _ => rfl)) pa_nil))))))))), ?_⟩
    have tp := two_pos r h14
    have nC := Ld_num h14 wo.len
    have d1 := (tabs_of h14).d1
    refine ⟨_, rfl, _, rfl, _, _, r, xs, rfl, hv, hu', h14, wo, fun D H1 s1 nD hD => ?_⟩
    obtain ⟨vs, gD, nu⟩ := id hD
    have vsl : (placesL r).length = vs.length := by rw [nu.1, LdL_len]
    refine ⟨_, rfl, D, _, rfl, .of gD, fun p bs np ik => ?_⟩
    have sp : Same H1 (upd H1 p (.lst (bs.map V.ref))) := same_upd np
    generalize hH2 : upd H1 p (.lst (bs.map V.ref)) = H2 at sp
    have gp : H2 p = some (.lst (bs.map V.ref)) := by rw [← hH2, upd_same]
    obtain ⟨bl, bg⟩ := keys_get vsl ik
    refine ⟨_, rfl, p, _, rfl, SqL.of gp, fun L nL => ?_⟩
    rw [cut_one]
    have sL := same_new (o := .lst ((bs.map V.ref).drop 1)) sp nL
    generalize hH3 : upd H2 L (.lst ((bs.map V.ref).drop 1)) = H3 at sL
    have gL : H3 L = some (.lst ((bs.map V.ref).drop 1)) := by rw [← hH3, upd_same]
    have t3 := s1.trans sL
    have hD3 := hD.same sL
    -- the first label
    obtain ⟨b1', hb1⟩ : ∃ b, bs[1]? = some b := ⟨_, List.getElem?_eq_getElem (by omega)⟩
    have hx1 : (placesL r)[1]? = some (pl r 1) := (at_pl tp).1
    have k1 : H3 b1' = some (.tup ((pl r 1).map V.int)) := sL _ _ (bg 1 _ b1' hx1 hb1)
    have at0 : atI ((bs.map V.ref).drop 1) (0 : Int) = some (.ref b1') := atI_nat (j := 0) (by rw [List.getElem?_drop, List.getElem?_map, hb1]; rfl)
    obtain ⟨v1, n1, g1v, hn1, e1⟩ := hD3.get h14 hx1 k1
    have c1 := nC n1 (List.mem_of_getElem? e1)
    refine ⟨_, rfl, L, rfl, ⟨_, SqL.of gL⟩, for_list (K := K) (a := L) (xs := (bs.map V.ref).drop 1) (fun i σ H4 => ∃ u4, σ = [some v, some u, some (.ref D), some (.ref L), u4, none, none] ∧ H4 = H3 ∧ ∀ (j : Nat) m, 1 ≤ j → j ≤ i → (LdL r xs)[j]? = some m → m = n1) ⟨none, rfl, rfl, fun j m h1 h2 => absurd h1 (by omega)⟩ (fun i σ H4 _ ⟨_, _, e, _⟩ => by rw [e]; exact SqL.of gL) ?_ ?_⟩
    · rintro i y σ H4 hi ⟨u4, rfl, rfl, all⟩
      rw [List.getElem?_drop, List.getElem?_map] at hi
      obtain ⟨b, hb, rfl⟩ := Option.map_eq_some_iff.mp hi
      have il : 1 + i < (placesL r).length := by rw [← bl]; exact ltL hb
      have hxi : (placesL r)[1 + i]? = some (pl r (1 + i)) := (at_pl il).1
      have ki : H4 b = some (.tup ((pl r (1 + i)).map V.int)) := sL _ _ (bg (1 + i) _ b hxi hb)
      obtain ⟨vi, ni, giv, hni, ei⟩ := hD3.get h14 hxi ki
      have ci := nC ni (List.mem_of_getElem? ei)
      refine ⟨_, rfl, _, rfl, D, vi, rfl, giv, _, rfl, _, rfl, L, _, _, .ref b1', rfl, rfl, SqL.of gL, at0, D, v1, rfl, g1v, numD ni, numD n1, num_dp hni, num_dp hn1, num_shaped _, num_shaped _, _, rfl, ?_⟩
      rw [num_eq2 ni n1 (by rw [ci.len, c1.len])]
      refine ite2 (fun c => ?_) (fun c => ?_)
      · have ne : ni ≠ n1 := fun z => by rw [z] at c; simp at c
        have i1 : 0 < i := by
          rcases Nat.eq_zero_or_pos i with z | z
          · subst z
            rw [e1] at ei
            exact absurd (Option.some.inj ei).symm ne
          · exact z
        refine ⟨_, rfl, L, _, _, .ref b1', rfl, rfl, SqL.of gL, at0, _, rfl, (by show 3 ≤ sizeLine; decide), fun t nt => ?_⟩
        have st : Same H4 (upd H4 t (.tup [.str "labels", .ref b1', .ref b])) := same_upd nt
        exact k _ _ (t3.trans st) (.inr ⟨t, b1', b, 1 + i, n1, ni, rfl, SqT.of upd_same, st _ _ k1, st _ _ ki, by omega, il, e1, ei, ne⟩)
      · have eq : ni = n1 := by
          by_cases z : ni = n1
          · exact z
          · exact absurd (by simp [z]) c
        refine ⟨_, rfl, rfl, fun j m h1 h2 hj => ?_⟩
        by_cases z : j ≤ i
        · exact all j m h1 z hj
        · have : j = 1 + i := by omega
          subst this
          rw [ei] at hj
          rw [← Option.some.inj hj]
          exact eq
    · rintro σ H4 ⟨u4, rfl, rfl, all⟩
      have dl : ((bs.map V.ref).drop 1).length = (placesL r).length - 1 := by rw [List.length_drop, List.length_map, bl]
      rw [dl] at all
      obtain ⟨np1, nt1, rfl, q1, q2⟩ := id hn1
      refine ⟨_, rfl, _, rfl, L, _, _, .ref b1', rfl, rfl, SqL.of gL, at0, D, _, rfl, g1v, np1, _, rfl, q1, rfl, _, _, rfl, _, _, rfl, rfl, ?_⟩
      refine ⟨_, rfl, nt1, _, _, .int (n1.1.getD 0 0), rfl, rfl, q2, atI_nat (j := 0) (getD_of (by rw [c1.len]; omega)), (by show 2 ≤ sizeLine; decide), fun t nt => ?_⟩
      have st : Same H4 (upd H4 t (.tup [.str "flat", .int (n1.1.getD 0 0)])) := same_upd nt
      refine k _ _ (t3.trans st) (.inl ⟨t, n1, rfl, SqT.of upd_same, e1, fun j m h1 hj => ?_⟩)
      have jl := ltL hj
      rw [LdL_len] at jl
      exact all j m h1 (by omega) hj
end
end K45

/-! The law's looks at places, whole rows, voices. -/
namespace K45
open PySem PySem.Spec PyProof.Rows L2
theorem lcm_div {a b : Int} (ha : 1 ≤ a) (hb : 1 ≤ b) : a * b / gcdI a b = lcmI a b := by
  obtain ⟨m, rfl⟩ := Int.eq_ofNat_of_zero_le (show 0 ≤ a by omega)
  obtain ⟨n, rfl⟩ := Int.eq_ofNat_of_zero_le (show 0 ≤ b by omega)
  unfold gcdI lcmI
  rw [Nat.lcm_one_left]
  show ((m : Int) * (n : Int)) / ((Nat.gcd m n : Nat) : Int) = ((Nat.lcm m n : Nat) : Int)
  rw [← Int.natCast_mul, ← Int.natCast_ediv]
  rfl
theorem gcd_pos {a b : Int} (ha : 1 ≤ a) (hl : a ≤ 1000) : 1 ≤ gcdI a b ∧ gcdI a b ≤ 1000 := by
  unfold gcdI
  have h1 : 1 ≤ Nat.gcd a.natAbs b.natAbs := Nat.gcd_pos_of_pos_left _ (by omega)
  have h2 : Nat.gcd a.natAbs b.natAbs ≤ a.natAbs := Nat.le_of_dvd (by omega) (Nat.gcd_dvd_left _ _)
  omega
def vJ (e p c : Int) (tops tot : List Int) : Nat → List Int
  | 0 => tot
  | j + 1 => if tops.getD j 0 = 0 then vJ e p c tops tot j else stepT e (vJ e p c tops tot j) ((j : Int) + p) (tops.getD j 0 * c)
def lvP (r : List Int) (ns : List Num) (l : List Int) : Nat → List Int
  | 0 => List.replicate (ordL r).toNat 0
  | a + 1 => vJ (ordL r) (pairL r (ordL r) (pl r a) l) (levB ns / (ns.getD a ([], 1)).2) (ns.getD a ([], 1)).1 (lvP r ns l a) (ns.getD a ([], 1)).1.length
theorem step_len (e : Int) (t : List Int) (j v : Int) : (stepT e t j v).length = t.length := by
  unfold stepT
  rw [List.length_set]
theorem vJ_len (e p c : Int) (tops tot : List Int) : ∀ j, (vJ e p c tops tot j).length = tot.length
  | 0 => rfl
  | j + 1 => by
    show (if _ = 0 then _ else _ : List Int).length = _
    split
    · exact vJ_len e p c tops tot j
    · rw [step_len, vJ_len e p c tops tot j]
theorem lvP_len (r : List Int) (ns : List Num) (l : List Int) : ∀ a, (lvP r ns l a).length = (ordL r).toNat
  | 0 => List.length_replicate
  | a + 1 => by
    show (vJ _ _ _ _ _ _).length = _
    rw [vJ_len, lvP_len r ns l a]
theorem dotc_vJ {c : Nat → Int} {e : Int} (he : 0 < e) (p k : Int) (tops : List Int) {tot : List Int} (hl : tot.length = e.toNat) : ∀ j, dotc c (vJ e p k tops tot j) = dotc c tot + sm j (fun m => tops.getD m 0 * k * c ((p + (m : Int)) % e).toNat)
  | 0 => (Int.add_zero _).symm
  | j + 1 => by
    have ih := dotc_vJ (c := c) he p k tops hl j
    show dotc c (if tops.getD j 0 = 0 then vJ e p k tops tot j else stepT e (vJ e p k tops tot j) ((j : Int) + p) (tops.getD j 0 * k)) = _ + (sm j _ + tops.getD j 0 * k * c ((p + (j : Int)) % e).toNat)
    by_cases z : tops.getD j 0 = 0
    · rw [if_pos z, ih, z, Int.zero_mul, Int.zero_mul, Int.add_zero]
    · rw [if_neg z, dotc_step he (by rw [vJ_len, hl]), ih, Int.add_comm (j : Int) p]
      exact Int.add_assoc _ _ _
theorem lv_red {r : List Int} (h : r ∈ RR) {ns : List Num} (hl : ns.length = (placesL r).length) (l : List Int) : redL (lvP r ns l (placesL r).length) (polyL (ordL r)) = tsL r 1 l (levT ns) := by
  have hp := poly_len h
  have eb := er_bd _ (er_in r h)
  unfold tsL
  refine ext_getD (by rw [redL_len' (by omega), redL_len' (by omega)]) fun k hk => ?_
  rw [redL_len' (by omega)] at hk
  rw [red_ph (by omega) hk, red_ph (by omega) hk]
  have q : ∀ n, n ≤ ns.length → dotc (Tz (dg r) (polyL (ordL r)) k) (lvP r ns l n) = dotc (Tz (dg r) (polyL (ordL r)) k) (tsGo r (ordL r) 1 l (levT ns) n) := by
    intro n
    induction n with
    | zero => intro _; rfl
    | succ n ih =>
      intro hn
      have i := ih (by omega)
      rw [dotc_ts r (by omega)] at i ⊢
      show dotc _ (vJ (ordL r) (pairL r (ordL r) (pl r n) l) (levB ns / (ns.getD n ([], 1)).2) (ns.getD n ([], 1)).1 (lvP r ns l n) (ns.getD n ([], 1)).1.length) = sm n _ + sm ((levT ns).getD n []).length _
      rw [dotc_vJ (by omega) _ _ _ (lvP_len r ns l n), i]
      congr 1
      obtain ⟨m, hm⟩ := get_lt (show n < ns.length by omega)
      have e1 : ns.getD n ([], 1) = m := by rw [List.getD_eq_getElem?_getD, hm]; rfl
      rw [e1, levT_get hm, List.length_map]
      refine sm_congr fun j hj => ?_
      rw [getD_map (c := fun t => t * (levB ns / m.2)) (Int.zero_mul _), Int.one_mul]
  have e := q (placesL r).length (by omega)
  have tl : (levT ns).length = (placesL r).length := by rw [levT_len, hl]
  rw [tl]
  exact e
section
variable {P : Program} {w : World} {K : PySem.W.Frag} {mg : Str → Option Value} {base : Heap} {f f1 f2 f3 f4 f5 : Addr} {fd fd1 fd2 fd3 fd4 fd5 : FuncData}
def spLInt : Sp := fun vs H Q _ => ∃ x a b : Int, vs = [.int x, .int a, .int b] ∧ a ≤ x ∧ x ≤ b ∧ Q (.bl true) H
theorem scLInt : FnScope ["thing", "low", "high"] ["thing", "low", "high"] (defScope sLIsInt) := ⟨rfl, rfl, rfl, by decide +kernel, rfl, by decide +kernel, by decide +kernel⟩
theorem ok_lInt (F : FnP K "_law_is_integer" sLIsInt f fd) (B : Bl mg) : FnOk P w K mg base CX0 1 f fd ["thing", "low", "high"] spLInt := by
  refine F.ok scLInt (fun vs H Q E h => ?_) (fun cdv A outer s H vs Q E hr h => ?_)
  · obtain ⟨x, a, b, rfl, _⟩ := h
    rfl
  · obtain ⟨x, a, b, rfl, h1, h2, k⟩ := h
    refine ⟨_, PSs.nox (pss_one (ps_ret (pe_and (pe_callB call_isi (by rfl) (B "isinstance" (by decide +kernel)) (by decide +kernel) (pa_cons (pv 0) (pa_cons (pe_bltn (v := .ty "int") (by rfl) (B "int" (by decide +kernel)) (by decide +kernel) rfl) pa_nil)))
      (pe_and (pe_not (pe_callB call_isi (by rfl) (B "isinstance" (by decide +kernel)) (by decide +kernel) (pa_cons (pv 0) (pa_cons (pe_bltn (v := .ty "bool") (by rfl) (B "bool" (by decide +kernel)) (by decide +kernel) rfl) pa_nil))))
        (pe_one (pe_chain op_le op_le (pv 1) (pv 0) (pv 2))))))), ?_⟩
    have c1 : decide (a ≤ x) = true := decide_eq_true h1
    have c2 : decide (x ≤ b) = true := decide_eq_true h2
    refine ⟨_, rfl, _, _, .type "int", _, true, rfl, .ty "int", .base (.int x), kit_ty (by decide +kernel), true, rfl, ?_⟩
    refine iteT ?_
    refine ⟨_, rfl, _, _, .type "int", _, false, rfl, .ty "bool", .base (.int x), kit_ty (by decide +kernel), false, rfl, true, rfl, ?_⟩
    refine iteT ?_
    refine ⟨_, rfl, _, rfl, _, _, rfl, rfl, _, rfl, ?_⟩
    refine ite2 (fun _ => ?_) (fun z => absurd c1 z)
    refine ⟨_, rfl, _, _, rfl, rfl, ?_⟩
    show Q (.bl (decide (x ≤ b))) H
    rw [c2]
    exact k
def spLIsPl (K : PySem.W.Frag) : Sp := fun vs H Q _ => ∃ (v u : V) (r p : List Int), vs = [v, u] ∧ TupI K H v r ∧ TupI K H u p ∧ r ∈ RR ∧ p ∈ placesL r ∧ ∀ H', Same H H' → Q (.bl true) H'
abbrev ipN : List Str := ["rings", "thing", "x", "size"]
theorem scLIP : FnScope ipN ["rings", "thing"] (defScope sLIsPl) := ⟨rfl, rfl, rfl, by decide +kernel, rfl, by decide +kernel, by decide +kernel⟩
theorem ip_bd : ∀ r ∈ RR, ∀ p ∈ placesL r, ∀ k ∈ List.range r.length, 0 ≤ p.getD k 0 ∧ p.getD k 0 ≤ r.getD k 0 - 1 := by decide +kernel
theorem ok_lIP (F : FnP K "_law_is_place" sLIsPl f fd) (B : Bl mg) (F1 : FnP K "_law_is_integer" sLIsInt f1 fd1) (g1 : mg "_law_is_integer" = some (.ref f1)) (G1 : FnOk P w K mg base CX0 1 f1 fd1 ["thing", "low", "high"] spLInt) : FnOk P w K mg base CX0 2 f fd ["rings", "thing"] (spLIsPl K) := by
  have b1 : Binds K fd1 ["thing", "low", "high"] [] := F1.bindsN fun _ _ _ _ _ _ us hl => match us, hl with | [_, _, _], _ => rfl
  refine F.ok scLIP (fun vs H Q E h => ?_) (fun cdv A outer s H vs Q E hr h => ?_)
  · obtain ⟨v, u, r, p, rfl, _⟩ := h
    rfl
  · obtain ⟨v, u, r, p, rfl, ⟨a, rfl, ha⟩, ⟨b, rfl, hb⟩, h14, hp, k⟩ := h
    have hu64 := hr.units
    refine ⟨_, PSs.nox (pss_cons (ps_if (PW.pt (pw_or (pt_not (pt_val (pe_callB call_isi (by rfl) (B "isinstance" (by decide +kernel)) (by decide +kernel) (pa_cons (pv 1) (pa_cons (pe_bltn (v := .ty "tuple") (by rfl) (B "tuple" (by decide +kernel)) (by decide +kernel) rfl) pa_nil))))) (pw_or1 (pt_cmpR op_ne (pe_callB call_len_seq (by rfl) (B "len" (by decide +kernel)) PySem.boot_len (pa_cons (pv 1) pa_nil)) (pe_callB call_len_seq (by rfl) (B "len" (by decide +kernel)) PySem.boot_len (pa_cons (pv 0) pa_nil)) (nomark _))))) (pss_one (ps_ret pe_bl)) pss_nil)
      (pss_one (ps_ret (pe_cmpR (op_eqD hu64) (pe_lc (own := [("x", 2), ("size", 3)]) (g := gTup K 2 (gCons (gName 2) (gCons (gName 3) gNil))) (tt := tNot (tTest (tCall spLInt [] E0 (tCons (tVar 2) (tCons (tC (.int 0)) (tCons (tOp (rI0 fun i j => .int (i - j)) (tVar 3) (tC (.int 1))) tNil)))))) (te := tC (.int 1)) rfl scLIP.nd (RZ.pi_zipA (by rfl) (B "zip" (by decide +kernel)) (pa_cons (pv 1) (pa_cons (pv 0) pa_nil)))
          (blkOk_by (own := [("x", 2), ("size", 3)]) (N := ipN) (sc := defScope sLIsPl) (by decide +kernel)) (fun _ _ _ _ _ => pg_tup rfl (pgs_cons (pg_name (i := 2) scLIP.nd rfl (Or.inl rfl)) (pgs_cons (pg_name (i := 3) scLIP.nd rfl (Or.inl rfl)) pgs_nil)))
          (fun _ _ _ _ _ => pts_one (pt_not (pt_val (pe_call G1 hr (by rfl) g1 F1.kp b1 .nil pass0 (pa_cons (pv 2) (pa_cons pe_int (pa_cons (pe_op op_sub (pv 3) pe_int) pa_nil))))))) (fun _ _ _ _ _ => pe_int)) (pe_lst pa_nil) (nomark _))))), ?_⟩
    have hl := rr_whole h14 hp
    refine ⟨_, rfl, _, _, .type "tuple", _, true, rfl, .ty "tuple", tyT hb, kit_ty (by decide +kernel), _, rfl, ?_⟩
    refine iteF ?_
    refine ⟨_, rfl, b, _, rfl, .inr hb, _, rfl, a, _, rfl, .inr ha, rfl, _, rfl, ?_⟩
    refine ite2 (fun c => absurd c (by simp [hl])) (fun _ => ?_)
    refine ⟨_, rfl, _, rfl, b, a, p.map V.int, r.map V.int, rfl, .inr ⟨hb, ha, fun D nD => ?_⟩⟩
    refine lc_it (walk_zipT (K := K) (a := b) (b := a) (xs := p.map V.int) (ys := r.map V.int) (by rw [List.length_map, List.length_map, hl])) (fun i H2 => Same H H2 ∧ H2 D = some (.lst [])) ⟨same_upd nD, upd_same⟩ (fun i H2 _ ⟨s2, _⟩ => ⟨s2.tup hb, s2.tup ha⟩) ?_ ?_
    · rintro i v H2 H3 hi ⟨s2, gD⟩ ⟨T5, x1, x2, rfl, nT, rfl, e1, e2⟩
      obtain ⟨x, rfl, hx⟩ := getI e1
      obtain ⟨n, rfl, hn⟩ := getI e2
      have sT : Same H2 (upd H2 T5 (.tup [.int x, .int n])) := same_upd nT
      have bd := ip_bd r h14 p hp i (List.mem_range.mpr (ltL hn))
      have gx : p.getD i 0 = x := by rw [List.getD_eq_getElem?_getD, hx]; rfl
      have gn : r.getD i 0 = n := by rw [List.getD_eq_getElem?_getD, hn]; rfl
      rw [gx, gn] at bd
      refine ⟨T5, _, rfl, SqT.of upd_same, rfl, _, _, rfl, _, _, rfl, rfl, ?_⟩
      refine ⟨rfl, _, rfl, _, rfl, _, _, rfl, rfl, x, 0, n - 1, rfl, bd.1, bd.2, _, rfl, ?_⟩
      refine iteF ?_
      exact ⟨s2.trans sT, sT _ _ gD⟩
    · rintro H2 ⟨s2, gD⟩
      refine ⟨by decide, fun L nL => ?_⟩
      have sL : Same H2 (upd H2 L (.lst [])) := same_upd nL
      refine ⟨.list [], .list [], .lst (SqL.of (sL _ _ gD)) .nil, .lst (SqL.of upd_same) .nil, by decide, by decide, ?_⟩
      exact k _ (s2.trans sL)
def spLWh (K : PySem.W.Frag) : Sp := fun vs H Q _ => ∃ (W : Wd) (D : Addr) (r xs : List Int), vs = [.ref W.w, .ref D] ∧ WrAt K H W r ∧ SqL K H D (xs.map V.int) ∧ xs.length = (placesL r).length ∧ ∀ v H', Same H H' → RowAt K H' v (rofL r xs) → Q v H'
theorem scLWh : FnScope ["world", "row", "x"] ["world", "row"] (defScope sLWhole) := ⟨rfl, rfl, rfl, by decide +kernel, rfl, by decide +kernel, by decide +kernel⟩
theorem ok_lWh (F : FnP K "_law_whole" sLWhole f fd) (B : Bl mg) (F4 : FnP K "_law_number" sLNumber f4 fd4) (g4 : mg "_law_number" = some (.ref f4)) (G4 : FnOk P w K mg base CX0 2 f4 fd4 ["world", "items", "bottom"] (spLNum K)) : FnOk P w K mg base CX0 3 f fd ["world", "row"] (spLWh K) := by
  have b4 : Binds K fd4 ["world", "items", "bottom"] [] := F4.bindsN fun _ _ _ _ _ _ us hl => match us, hl with | [_, _, _], _ => rfl
  refine F.ok scLWh (fun vs H Q E h => ?_) (fun cdv A outer s H vs Q E hr h => ?_)
  · obtain ⟨W, D, r, xs, rfl, _⟩ := h
    rfl
  · obtain ⟨W, D, r, xs, rfl, hW, hD, xl, k⟩ := h
    refine ⟨_, PSs.nox (pss_one (ps_ret (pe_callTy call_tuple_of (by rfl) (B "tuple" (by decide +kernel)) (by decide +kernel) (pa_cons
      (pe_lc (own := [("x", 2)]) (g := gName 2) (tt := tYes) (te := tCall (spLNum K) [] E0 (tCons (tVar 0) (tCons (tLst (tCons (tVar 2) tNil)) (tCons (tC (.int 1)) tNil)))) rfl scLWh.nd (pi_list (pv 1)) (blkOk_by (own := [("x", 2)]) (N := ["world", "row", "x"]) (sc := defScope sLWhole) (by decide +kernel))
        (fun _ _ _ _ _ => pg_name (i := 2) scLWh.nd rfl (Or.inl rfl)) (fun _ _ _ _ _ => pts_nil) (fun _ _ _ _ _ => pe_call G4 hr (by rfl) g4 F4.kp b4 .nil pass0 (pa_cons (pv 0) (pa_cons (pe_lst (pa_cons (pv 2) pa_nil)) (pa_cons pe_int pa_nil))))) pa_nil)))), ?_⟩
    have h14 := hW.rr
    have he := er_in r h14
    have h16 := rr_pl0 r h14
    have eb := er_bd _ he
    refine ⟨_, rfl, D, rfl, ⟨_, hD⟩, fun L nL => ?_⟩
    have tl : (rofL r xs).length = xs.length := by
      unfold rofL
      rw [List.length_map]
    refine lc_list (K := K) (a := D) (xs := xs.map V.int) (fun i H4 => Same H H4 ∧ ∃ vs, H4 L = some (.lst vs) ∧ Nums K H4 vs ((rofL r xs).take i)) ⟨same_upd nL, [], upd_same, by rw [List.take_zero]; exact nums_nil⟩ (fun i H4 _ ⟨s4, _⟩ => s4.seq hD) ?_ ?_
    · rintro i y H4 hi ⟨s4, vs, h4', tn4⟩
      obtain ⟨x, rfl, hx⟩ := getI hi
      have il := ltL hx
      refine ⟨rfl, _, rfl, _, rfl, (by show 1 ≤ sizeLine; decide), fun z nz => ?_⟩
      have sz : Same H4 (upd H4 z (.lst [.int x])) := same_upd nz
      have hW5 := (s4.trans sz).wr hW
      refine ⟨W.w, z, W.Ph, _, [x], ordL r, 1, rfl, hW5.w, v_order, v_phi, he, hW5.Ph, SqL.of upd_same, (by show 1 ≤ (ordL r).toNat; omega), by decide, by decide, fun v6 H6 s6 hv6 => ?_⟩
      have hv' : NumAt K H6 v6 (whN r x) := by
        rw [← rof_eq h14]
        exact hv6
      have s46 := sz.trans s6
      have ul := tn4.1
      rw [List.length_take, tl] at ul
      have ev : (rofL r xs)[i]? = some (whN r x) := by
        unfold rofL
        rw [List.getElem?_map, hx]
        rfl
      have gL6 := s46 _ _ h4'
      refine ⟨vs, gL6, sl_lt (by omega), same_at (s4.trans s46) nL, vs ++ [v6], upd_same, ?_⟩
      rw [takeS ev]
      exact Nums.snoc (nums_at (s46.nums tn4) gL6) (num_at hv' gL6)
    · rintro H4 ⟨s4, vs, h4', tn4⟩
      rw [List.length_map, ← tl, List.take_length] at tn4
      refine ⟨L, vs, rfl, .inl ⟨SqL.of h4', fun p2 hp2 => ?_⟩⟩
      have sp : Same H4 (upd H4 p2 (.tup vs)) := same_upd hp2
      exact k _ _ (s4.trans sp) ⟨p2, vs, rfl, SqT.of upd_same, sp.nums tn4⟩
end
end K45

/-! The law's voices. -/
namespace K45
open PySem PySem.Spec PyProof.Rows L2
theorem stepT_zero {e : Int} (he : 0 < e) {tot : List Int} (hl : tot.length = e.toNat) (j : Int) : stepT e tot j 0 = tot := by
  have h0 := Int.emod_nonneg j (show e ≠ 0 by omega)
  have h1 := Int.emod_lt_of_pos j he
  unfold stepT
  rw [Int.add_zero]
  refine ext_getD (by simp) fun k hk => ?_
  rw [getD_set (by omega)]
  by_cases q : k = (j % e).toNat
  · rw [if_pos q, q]
  · rw [if_neg q]
theorem pairT_get {r : List Int} {i j : Nat} (hi : i < (placesL r).length) (hj : j < (placesL r).length) : (pairT r)[i]? = some ((placesL r).map fun y => pairL r (ordL r) (pl r i) y) ∧ ((placesL r).map fun y => pairL r (ordL r) (pl r i) y).getD j 0 = pairL r (ordL r) (pl r i) (pl r j) := by
  refine ⟨?_, ?_⟩
  · unfold pairT
    rw [List.getElem?_map, (at_pl hi).1]
    rfl
  · rw [List.getD_eq_getElem?_getD, List.getElem?_map, (at_pl hj).1]
    rfl
section
variable {P : Program} {w : World} {K : PySem.W.Frag} {mg : Str → Option Value} {base : Heap} {f f1 f2 f3 f4 f5 : Addr} {fd fd1 fd2 fd3 fd4 fd5 : FuncData}
def spLVo (K : PySem.W.Frag) : Sp := fun vs H Q _ => ∃ (W : Wd) (u : V) (r : List Int) (ns : List Num) (at_ : Nat), vs = [.ref W.w, u, .int (at_ : Nat)] ∧ WrAt K H W r ∧ RowAt K H u ns ∧ RowOk r ns ∧ at_ < (placesL r).length ∧ ∀ v' H', Same H H' → NumAt K H' v' (voN1 r ns (pl r at_)) → Q v' H'
abbrev lvN : List Str := ["world", "row", "at", "bottom", "tops", "low", "found", "seat", "j", "x", "spot"]
theorem scLV : FnScope lvN ["world", "row", "at"] (defScope sLVoice) := ⟨rfl, rfl, rfl, by decide +kernel, rfl, by decide +kernel, by decide +kernel⟩
theorem ok_lVo (F : FnP K "_law_voice" sLVoice f fd) (B : Bl mg) (F3 : FnP K "_law_divisor" sLDiv f3 fd3) (g3 : mg "_law_divisor" = some (.ref f3)) (G3 : FnOk P w K mg base CX0 1 f3 fd3 ["one", "other"] spGcd)
    (F4 : FnP K "_law_number" sLNumber f4 fd4) (g4 : mg "_law_number" = some (.ref f4)) (G4 : FnOk P w K mg base CX0 2 f4 fd4 ["world", "items", "bottom"] (spLNum K)) : FnOk P w K mg base CX0 3 f fd ["world", "row", "at"] (spLVo K) := by
  have b3 : Binds K fd3 ["one", "other"] [] := F3.bindsN fun _ _ _ _ _ _ us hl => match us, hl with | [_, _], _ => rfl
  have b4 : Binds K fd4 ["world", "items", "bottom"] [] := F4.bindsN fun _ _ _ _ _ _ us hl => match us, hl with | [_, _, _], _ => rfl
  refine F.ok scLV (fun vs H Q E h => ?_) (fun cdv A outer s H vs Q E hr h => ?_)
  · obtain ⟨W, u, r, ns, l, rfl, _⟩ := h
    rfl
  · obtain ⟨W, u, r, ns, l, rfl, hW, hR, ro, hl, k⟩ := h
    have hu := hu_of hr
    refine ⟨_, PSs.nox (pss_cons (ps_set (i := 3) scLV.nd rfl (Or.inl rfl) pe_int)
      (pss_cons (ps_for PassesOwn.never rfl (pi_tup (pv 1)) (pg_tup rfl (pgs_cons (pg_name (i := 4) scLV.nd rfl (Or.inl rfl)) (pgs_cons (pg_name (i := 5) scLV.nd rfl (Or.inl rfl)) pgs_nil)))
        (pss_one (ps_set (i := 3) scLV.nd rfl (Or.inl rfl) (pe_op op_fdiv (pe_op op_mul (pv 3) (pv 5)) (pe_call G3 (hr.mono (by decide)) (by rfl) g3 F3.kp b3 .nil pass0 (pa_cons (pv 3) (pa_cons (pv 5) pa_nil)))))))
      (pss_cons (ps_set (i := 6) scLV.nd rfl (Or.inl rfl) (pe_op op_rep (pe_lst (pa_cons pe_int pa_nil)) (pe_dget hu (pv 0) pe_str (fun _ _ => rfl))))
      (pss_cons (ps_for PassesOwn.never rfl (pi_enumT (by rfl) (B "enumerate" (by decide +kernel)) (pa_cons (pv 1) pa_nil)) (pg_tup rfl (pgs_cons (pg_name (i := 7) scLV.nd rfl (Or.inl rfl)) (pgs_cons (pg_tup rfl (pgs_cons (pg_name (i := 4) scLV.nd rfl (Or.inl rfl)) (pgs_cons (pg_name (i := 5) scLV.nd rfl (Or.inl rfl)) pgs_nil))) pgs_nil)))
        (pss_one (ps_for PassesOwn.never rfl (pi_enumT (by rfl) (B "enumerate" (by decide +kernel)) (pa_cons (pv 4) pa_nil)) (pg_tup rfl (pgs_cons (pg_name (i := 8) scLV.nd rfl (Or.inl rfl)) (pgs_cons (pg_name (i := 9) scLV.nd rfl (Or.inl rfl)) pgs_nil)))
          (pss_one (ps_if (pt_cmpR op_ne (pv 9) pe_int (nomark _))
            (pss_cons (ps_set (i := 10) scLV.nd rfl (Or.inl rfl) (pe_op op_mod (pe_callTy call_int1 (by rfl) (B "int" (by decide +kernel)) (by decide +kernel) (pa_cons (pe_op op_add (pv 8) (pe_ix ix_list (pe_ix ix_list (pe_dget hu (pv 0) pe_str (fun _ _ => rfl)) (pv 7) (fun _ _ => rfl)) (pv 2) (fun _ _ => rfl))) pa_nil)) (pe_dget hu (pv 0) pe_str (fun _ _ => rfl))))
            (pss_one (ps_asg (pe_op op_add (pe_ix ix_list (pv 6) (pv 10) (fun _ _ => rfl)) (pe_op op_mul (pv 9) (pe_op op_fdiv (pv 3) (pv 5)))) (pg_sub (pv 6) (pv 10) set_list))))
            pss_nil)))))
      (pss_one (ps_ret (pe_call G4 hr (by rfl) g4 F4.kp b4 .nil pass0 (pa_cons (pv 0) (pa_cons (pv 6) (pa_cons (pv 3) pa_nil)))))))))), ?_⟩
    obtain ⟨aw, us, rfl, haw, hN⟩ := hR
    have hul := hN.1
    have h14 := hW.rr
    have he := er_in r h14
    have eb := er_bd _ he
    have l16 := rr_pl0 r h14
    have lns := ro.len
    have ts_len : W.ts.length = (placesL r).length := by rw [hW.T.1, pairT, List.length_map]
    -- the bottoms
    refine ⟨_, rfl, aw, rfl, ⟨_, haw⟩, for_tup (K := K) (a := aw) (xs := us) (fun i σ H4 => ∃ u4 u5, σ = [some (.ref W.w), some (.ref aw), some (.int (l : Nat)), some (.int (levB (ns.take i))), u4, u5, none, none, none, none, none] ∧ H4 = H)
      ⟨none, none, rfl, rfl⟩ (fun i σ H4 _ ⟨_, _, _, e⟩ => by rw [e]; exact haw) ?_ ?_⟩
    · rintro i y σ H4 hi ⟨u4, u5, rfl, rfl⟩
      obtain ⟨n, hn, p, t, rfl, hp, ht⟩ := hN.get hi
      have il := ltL hn
      have b0 := ro.lev i (by omega)
      have b1 := ro.lev (i + 1) (by omega)
      have bn := ro.item n (List.mem_of_getElem? hn)
      have e : levB (ns.take (i + 1)) = lcmI (levB (ns.take i)) n.2 := by
        rw [takeS hn]
        unfold levB
        rw [List.foldl_append]
        rfl
      have gp := gcd_pos (b := n.2) b0.1 b0.2
      have e2 := lcm_div b0.1 bn.1
      refine ⟨p, _, rfl, hp, rfl, _, _, rfl, _, _, rfl, rfl, ?_⟩
      refine ⟨_, rfl, _, rfl, _, _, rfl, rfl, Or.inl ⟨by omega, by omega⟩, _, rfl, _, rfl, _, _, rfl, _, _, rfl, rfl, ⟨by omega, by omega⟩, ?_⟩
      refine ⟨some (.ref t), some (.int n.2), ?_, rfl⟩
      rw [e, ← e2]
      rfl
    · rintro σ H4 ⟨u4, u5, rfl, rfl⟩
      rw [hul, List.take_length]
      have bB := ro.lev ns.length (Nat.le_refl _)
      rw [List.take_length] at bB
      refine ⟨by show 1 ≤ sizeLine; decide, fun z hz => ?_⟩
      have sz : Same H4 (upd H4 z (.lst [.int 0])) := same_upd hz
      refine ⟨_, rfl, W.w, _, rfl, (sz.wr hW).gO, z, _, _, rfl, rfl, upd_same, by omega, by omega, sl_1000 (by simp; omega), fun S hS => ?_⟩
      rw [rep_flat]
      have s5 := same_new (o := .lst (List.replicate (ordL r).toNat (V.int 0))) sz hS
      have nS4 : H4 S = none := sz.free hS
      generalize hH5 : upd (upd H4 z (.lst [.int 0])) S (.lst (List.replicate (ordL r).toNat (V.int 0))) = H5 at s5
      have g5 : H5 S = some (.lst ((lvP r ns (pl r l) 0).map V.int)) := by
        rw [← hH5, upd_same]
        simp [lvP]
      clear hH5
      refine ⟨_, rfl, aw, us, rfl, s5.tup haw, ?_⟩
      refine for_it (walk_enumT (K := K) (a := aw) (xs := us)) (fun m σ H7 => ∃ u4 u5 u7 u8 u9 u10, σ = [some (.ref W.w), some (.ref aw), some (.int (l : Nat)), some (.int (levB ns)), u4, u5, some (.ref S), u7, u8, u9, u10] ∧ Same H4 H7 ∧ H7 S = some (.lst ((lvP r ns (pl r l) m).map V.int)))
        ⟨u4, u5, none, none, none, none, rfl, s5, g5⟩ (fun m σ H7 _ ⟨_, _, _, _, _, _, _, z, _⟩ => z.tup haw) ?_ ?_
      · rintro m v σ H7 H8 hm ⟨u4', u5', u7', u8', u9', u10', rfl, s7, g7⟩ ⟨Tt, c5, y5, rfl, hT, rfl, ec, ey⟩
        obtain rfl := Option.some.inj ec
        obtain ⟨n, hn, p, t, rfl, hp, ht⟩ := hN.get ey
        have ml := ltL hn
        have bn := ro.item n (List.mem_of_getElem? hn)
        have st : Same H7 (upd H7 Tt (.tup [.int (m : Int), .ref p])) := same_upd hT
        have gT : SqT K (upd H7 Tt (.tup [.int (m : Int), .ref p])) Tt [.int (m : Int), .ref p] := SqT.of upd_same
        have s8 := s7.trans st
        have g8 := st _ _ g7
        generalize upd H7 Tt (.tup [.int (m : Int), .ref p]) = H8 at st s8 g8 gT
        have hp8 := s8.tup hp
        have ht8 := s8.tup ht
        refine ⟨Tt, _, rfl, gT, rfl, _, _, rfl, _, _, rfl, p, _, rfl, hp8, rfl, _, _, rfl, _, _, rfl, rfl, rfl, ?_⟩
        have tb0 : 0 ≤ levB ns / n.2 := Int.ediv_nonneg (by omega) (by omega)
        have tb1 : levB ns / n.2 ≤ levB ns := Int.ediv_le_self _ (by omega)
        have gl := lvP_len r ns (pl r l) m
        have epn : ns.getD m ([], 1) = n := by rw [List.getD_eq_getElem?_getD, hn]; rfl
        refine ⟨_, rfl, t, n.1.map V.int, rfl, ht8, ?_⟩
        refine for_it (walk_enumT (K := K) (a := t) (xs := n.1.map V.int)) (fun kk σ H10 => ∃ u8 u9 u10, σ = [some (.ref W.w), some (.ref aw), some (.int (l : Nat)), some (.int (levB ns)), some (.ref t), some (.int n.2), some (.ref S), some (.int (m : Int)), u8, u9, u10] ∧ Same H4 H10 ∧ H10 S = some (.lst ((vJ (ordL r) (pairL r (ordL r) (pl r m) (pl r l)) (levB ns / n.2) n.1 (lvP r ns (pl r l) m) kk).map V.int)))
          ⟨_, _, _, rfl, s8, g8⟩ (fun kk σ H10 _ ⟨_, _, _, _, z, _⟩ => z.tup ht) ?_ ?_
        · rintro kk v σ H10 H11 hkk ⟨w8, w9, w10, rfl, s10, g10⟩ ⟨Tv, c7, y7, rfl, hTv, rfl, ec7, ey7⟩
          obtain ⟨top, rfl, htp⟩ := getI ey7
          obtain rfl := Option.some.inj ec7
          have sv : Same H10 (upd H10 Tv (.tup [.int (kk : Int), .int top])) := same_upd hTv
          have g11 := sv _ _ g10
          have kl := ltL htp
          have t11 := s10.trans sv
          have hW11 := t11.wr hW
          have al : (vJ (ordL r) (pairL r (ordL r) (pl r m) (pl r l)) (levB ns / n.2) n.1 (lvP r ns (pl r l) m) kk).length = (ordL r).toNat := by rw [vJ_len, gl]
          have etop : n.1.getD kk 0 = top := by rw [List.getD_eq_getElem?_getD, htp]; rfl
          have evj : vJ (ordL r) (pairL r (ordL r) (pl r m) (pl r l)) (levB ns / n.2) n.1 (lvP r ns (pl r l) m) (kk + 1) = if top = 0 then vJ (ordL r) (pairL r (ordL r) (pl r m) (pl r l)) (levB ns / n.2) n.1 (lvP r ns (pl r l) m) kk else stepT (ordL r) (vJ (ordL r) (pairL r (ordL r) (pl r m) (pl r l)) (levB ns / n.2) n.1 (lvP r ns (pl r l) m) kk) ((kk : Int) + pairL r (ordL r) (pl r m) (pl r l)) (top * (levB ns / n.2)) := by
            rw [← etop]
            rfl
          generalize vJ (ordL r) (pairL r (ordL r) (pl r m) (pl r l)) (levB ns / n.2) n.1 (lvP r ns (pl r l) m) kk = U at g10 g11 al evj
          have m0 := Int.emod_nonneg ((kk : Int) + pairL r (ordL r) (pl r m) (pl r l)) (show ordL r ≠ 0 by omega)
          have m1 := Int.emod_lt_of_pos ((kk : Int) + pairL r (ordL r) (pl r m) (pl r l)) (show 0 < ordL r by omega)
          obtain ⟨ix, hix⟩ := Int.eq_ofNat_of_zero_le m0
          obtain ⟨pg1, pg2⟩ := pairT_get (r := r) (i := m) (j := l) (by omega) hl
          obtain ⟨vt, hvt⟩ : ∃ v, W.ts[m]? = some v := ⟨_, List.getElem?_eq_getElem (by omega)⟩
          obtain ⟨tA, rfl, gtA⟩ := hW11.T.2 m vt _ hvt pg1
          have tpp : atI (((placesL r).map fun y => pairL r (ordL r) (pl r m) y).map V.int) (l : Int) = some (V.int (pairL r (ordL r) (pl r m) (pl r l))) := by
            rw [← pg2]
            exact atI_nat (getD_of (by rw [List.length_map]; exact hl))
          refine ⟨Tv, _, rfl, SqT.of upd_same, rfl, _, _, rfl, _, _, rfl, rfl, ?_⟩
          refine ⟨_, rfl, rfl, _, rfl, ?_⟩
          refine ite2 (fun c => ?_) (fun c => ?_)
          · have tz : top ≠ 0 := fun z => by simp [z] at c
            rw [if_neg tz] at evj
            have tp : atI (U.map V.int) (((kk : Int) + pairL r (ordL r) (pl r m) (pl r l)) % ordL r) = some (V.int (U.getD ix 0)) := by
              rw [hix]
              exact atI_nat (getD_of (by rw [al]; omega))
            refine ⟨_, rfl, _, rfl, W.w, _, rfl, hW11.gQ, _, rfl, W.Pr, _, _, .ref tA, rfl, rfl, SqL.of hW11.Pr, atI_nat hvt, _, rfl, tA, _, _, _, rfl, rfl, SqL.of gtA, tpp, _, _, rfl, rfl, Or.inl ⟨_, rfl, _, rfl, W.w, _, rfl, hW11.gO, _, _, rfl, rfl, (by show (0 : Int) < ordL r; omega), ?_⟩⟩
            refine ⟨_, rfl, _, rfl, S, _, _, _, rfl, rfl, SqL.of g11, tp, _, rfl, _, rfl, _, rfl, _, _, rfl, rfl, ⟨by omega, by omega⟩, _, _, rfl, rfl, Or.inr ⟨by omega, by omega⟩, _, _, rfl, rfl, _, rfl, _, rfl, S, _, _, ix, rfl, rfl, g11, ?_, ?_⟩
            · rw [hix, List.length_map, al]
              exact ixN_nat (by omega)
            · refine ⟨_, _, _, rfl, same_at (s10.trans sv) nS4, ?_⟩
              rw [upd_same, ← List.map_set, evj]
              unfold stepT
              rw [hix, Int.toNat_natCast]
          · have c1 : top = 0 := by
              by_cases z : top = 0
              · exact z
              · exact absurd (by simp [z]) c
            rw [if_pos c1] at evj
            refine ⟨_, _, _, rfl, s10.trans sv, ?_⟩
            rw [g11, evj]
        · rintro σ H10 ⟨w8, w9, w10, rfl, s10, g10⟩
          refine ⟨_, _, _, _, _, _, rfl, s10, ?_⟩
          rw [g10, List.length_map]
          show _ = some (HO.lst ((vJ (ordL r) (pairL r (ordL r) (pl r m) (pl r l)) (levB ns / (ns.getD m ([], 1)).2) (ns.getD m ([], 1)).1 (lvP r ns (pl r l) m) (ns.getD m ([], 1)).1.length).map V.int))
          rw [epn]
      · rintro σ H7 ⟨u4', u5', u7', u8', u9', u10', rfl, s7, g7⟩
        rw [hul, lns] at g7
        have gl := lvP_len r ns (pl r l) (placesL r).length
        have hW7 := s7.wr hW
        refine ⟨_, rfl, _, rfl, _, rfl, W.w, S, W.Ph, _, lvP r ns (pl r l) (placesL r).length, ordL r, levB ns, rfl, hW7.w, v_order, v_phi, he, hW7.Ph, SqL.of g7, by omega, by omega, by omega, fun v' H8 s8 hv' => k v' H8 (s7.trans s8) ?_⟩
        unfold voN1
        rw [← lv_red h14 lns]
        exact hv'
end
end K45

/-! Whole rows as loud at all labels: their differences, counted. -/
namespace K45
open PySem PySem.Spec PyProof.Rows L2
section
variable {r : List Int}
theorem pw_zero : ∀ r ∈ RR, ∀ l ∈ List.range (placesL r).length, pairL r (ordL r) (pl r 0) (pl r l) = 0 := by decide +kernel
/-- only one item, at the origin -/
theorem Tq_delta (h : r ∈ RR) (s : Int) {b : Nat} (hb : b < (placesL r).length) (v : Nat → Int) {j : Nat} (hj : j < dg r) : Tq r s (pl r b) (fun i k => if i = 0 then v k else 0) j = v j := by
  have e : Tq r s (pl r b) (fun i k => if i = 0 then v k else 0) j = sm (placesL r).length (fun i => if i = 0 then tn (dg r) (polyL (ordL r)) (pw r (ordL r) s (pl r i) (pl r b)) v j else 0) := sm_congr fun i _ => by
    by_cases c : i = 0
    · rw [if_pos c]
      exact tn_congr fun k _ => if_pos c
    · rw [if_neg c]
      have : tn (dg r) (polyL (ordL r)) (pw r (ordL r) s (pl r i) (pl r b)) (fun k => if i = 0 then v k else 0) j = tn (dg r) (polyL (ordL r)) (pw r (ordL r) s (pl r i) (pl r b)) (fun k => 0 * v k) j := tn_congr fun k _ => (if_neg c).trans (Int.zero_mul _).symm
      exact this.trans (by rw [tn_mul, Int.zero_mul])
  have hp := (pl_pos r h).1
  rw [e, sm_delta (f := fun i => tn (dg r) (polyL (ordL r)) (pw r (ordL r) s (pl r i) (pl r b)) v j), if_pos (by omega)]
  have z : pw r (ordL r) s (pl r 0) (pl r b) = 0 := by
    unfold pw
    rw [pw_zero r h b (List.mem_range.mpr hb), Int.mul_zero]
    simp
  rw [z]
  exact tn_zero hj
theorem Tq_add (s : Int) (l : List Int) (U W : Nat → Nat → Int) (j : Nat) : Tq r s l (fun i k => U i k + W i k) j = Tq r s l U j + Tq r s l W j := by
  have e : Tq r s l (fun i k => U i k + W i k) j = sm (placesL r).length (fun i => tn (dg r) (polyL (ordL r)) (pw r (ordL r) s (pl r i) l) (U i) j + tn (dg r) (polyL (ordL r)) (pw r (ordL r) s (pl r i) l) (W i) j) := sm_congr fun i _ => tn_add _ _ _ _ _ _
  rw [e, sm_add]
  rfl
theorem Tq_cong (s : Int) (l : List Int) {U W : Nat → Nat → Int} (h : ∀ i, i < (placesL r).length → ∀ k, k < dg r → U i k = W i k) (j : Nat) : Tq r s l U j = Tq r s l W j := sm_congr fun i hi => tn_congr fun k hk => h i hi k hk
/-- all items the same -/
theorem Tq_const (h : r ∈ RR) {s : Int} (hs : s = 1 ∨ s = -1) {b : Nat} (hb : b < (placesL r).length) (v : Nat → Int) {j : Nat} (hj : j < dg r) : Tq r s (pl r b) (fun _ k => v k) j = if b = 0 then ((placesL r).length : Int) * v j else 0 := by
  have q := inv_ts (tabs_of h) hs hb (fun i k => if i = 0 then v k else 0) hj
  have e : Tq r s (pl r b) (fun _ k => v k) j = Tq r s (pl r b) (fun li => Tq r (-s) (pl r li) (fun i k => if i = 0 then v k else 0)) j := Tq_cong _ _ (fun i hi k hk => (Tq_delta h (-s) hi v hk).symm) j
  rw [e]
  refine Eq.trans q ?_
  by_cases c : b = 0
  · rw [if_pos c, if_pos c]
  · rw [if_neg c, if_neg c, Int.mul_zero]
/-- a row that is level but for the origin -/
theorem Tq_level (h : r ∈ RR) {s : Int} (hs : s = 1 ∨ s = -1) {b : Nat} (hb : b < (placesL r).length) {W : Nat → Nat → Int} {u z : Nat → Int} (hW : ∀ i, i < (placesL r).length → ∀ k, k < dg r → W i k = u k + if i = 0 then z k else 0) {j : Nat} (hj : j < dg r) : Tq r s (pl r b) W j = (if b = 0 then ((placesL r).length : Int) * u j else 0) + z j := by
  rw [Tq_cong s (pl r b) hW, Tq_add, Tq_const h hs hb u hj, Tq_delta h s hb z hj]
/-- a whole row's vectors -/
def Wv (xs : List Int) : Nat → Nat → Int := fun i k => if k = 0 then xs.getD i 0 else 0
theorem LdL_ct (h : r ∈ RR) {xs : List Int} (hl : xs.length = (placesL r).length) : LdL r xs = voL r (rofL r (ctL r xs)) := by
  unfold LdL
  rw [← vo_dfr h (rowC_rof h hl), dfr_rof h hl]
theorem Ld_rep (h : r ∈ RR) {xs : List Int} (hl : xs.length = (placesL r).length) {l : Nat} {m : Num} (hm : (LdL r xs)[l]? = some m) : Rp (dg r) m 1 (Tq r 1 (pl r l) (Wv (ctL r xs))) := by
  rw [LdL_ct h hl] at hm
  exact Rp_vo h (rowC_rof h (ctL_len r xs)) (by decide) (fun i n e => Rp_rof h e) hm
/-- the differences' counts are all the same but for the first -/
def Lev (r xs : List Int) : Prop := ∀ i, 1 ≤ i → i < (placesL r).length → (ctL r xs).getD i 0 = (ctL r xs).getD 1 0
/-- the first count less the second -/
def Fl (r xs : List Int) : Int := (ctL r xs).getD 0 0 - (ctL r xs).getD 1 0
theorem lev_flat (h : r ∈ RR) {xs : List Int} (hl : xs.length = (placesL r).length) (lv : Lev r xs) {l : Nat} (l1 : 1 ≤ l) {m : Num} (hm : (LdL r xs)[l]? = some m) : m = whN r (Fl r xs) := by
  have ll := ltL hm
  rw [LdL_len] at ll
  refine Rp_eq (M := 1) (by decide) (Ld_num h hl m (List.mem_of_getElem? hm)) (numC_wh h _) (Ld_rep h hl hm) (Rp_congr (fun k hk => ?_) (Rp_self (dg r) (whN r (Fl r xs))))
  rw [Tq_level h (Or.inl rfl) ll (u := fun k => if k = 0 then (ctL r xs).getD 1 0 else 0) (z := fun k => if k = 0 then Fl r xs else 0) (fun i hi k hk => ?_) hk, if_neg (by omega), Int.zero_add, wh_get h _ hk]
  show (if k = 0 then (ctL r xs).getD i 0 else 0) = _
  unfold Fl
  by_cases c : k = 0
  · by_cases d : i = 0
    · subst d
      simp only [if_pos c, if_true]
      omega
    · simp only [if_pos c, if_neg d]
      rw [lv i (by omega) hi]
      omega
  · by_cases d : i = 0 <;> simp [c, d]
theorem flat_lev (h : r ∈ RR) {xs : List Int} (hl : xs.length = (placesL r).length) {n : Num} (all : ∀ (j : Nat) m, 1 ≤ j → (LdL r xs)[j]? = some m → m = n) : Lev r xs := by
  have tp := two_pos r h
  have d1 := (tabs_of h).d1
  have w : ∀ l, 1 ≤ l → l < (placesL r).length → ∀ k, k < dg r → n.2 * Tq r 1 (pl r l) (Wv (ctL r xs)) k = n.1.getD k 0 := fun l l1 ll k hk => by
    obtain ⟨m, hm⟩ := get_lt (show l < (LdL r xs).length by rw [LdL_len]; exact ll)
    have q := Ld_rep h hl hm k hk
    rw [all l m l1 hm] at q
    rw [q, Int.one_mul]
  obtain ⟨m1, hm1⟩ := get_lt (show 1 < (LdL r xs).length by rw [LdL_len]; exact tp)
  have n1 : NumC (dg r) n := by
    rw [← all 1 m1 (by decide) hm1]
    exact Ld_num h hl m1 (List.mem_of_getElem? hm1)
  have p1 := n1.pos
  have same : ∀ l, 1 ≤ l → l < (placesL r).length → ∀ k, k < dg r → Tq r 1 (pl r l) (Wv (ctL r xs)) k = Tq r 1 (pl r 1) (Wv (ctL r xs)) k := fun l l1 ll k hk => icancel p1 (by rw [w l l1 ll k hk, w 1 (by decide) tp k hk])
  have key : ∀ b, 1 ≤ b → b < (placesL r).length → ((placesL r).length : Int) * (ctL r xs).getD b 0 = Tq r 1 (pl r 0) (Wv (ctL r xs)) 0 - Tq r 1 (pl r 1) (Wv (ctL r xs)) 0 := fun b b1 hb => by
    have q := inv_ts (tabs_of h) (Or.inr rfl : (-1 : Int) = 1 ∨ (-1 : Int) = -1) hb (Wv (ctL r xs)) (j := 0) (by omega)
    have e := Tq_level h (Or.inr rfl : (-1 : Int) = 1 ∨ (-1 : Int) = -1) hb (W := fun li => Tq r 1 (pl r li) (Wv (ctL r xs))) (u := fun k => Tq r 1 (pl r 1) (Wv (ctL r xs)) k) (z := fun k => Tq r 1 (pl r 0) (Wv (ctL r xs)) k - Tq r 1 (pl r 1) (Wv (ctL r xs)) k) (fun i hi k hk => by
      by_cases c : i = 0
      · subst c
        simp only [if_true]
        omega
      · simp only [if_neg c]
        rw [same i (by omega) hi k hk]
        omega) (j := 0) (by omega)
    rw [if_neg (by omega), Int.zero_add] at e
    have q' : Tq r (-1) (pl r b) (fun li => Tq r 1 (pl r li) (Wv (ctL r xs))) 0 = ((placesL r).length : Int) * Wv (ctL r xs) b 0 := q
    rw [e] at q'
    rw [q']
    rfl
  intro i i1 hi
  have a := key i i1 hi
  have b := key 1 (by decide) tp
  exact icancel (show (1 : Int) ≤ ((placesL r).length : Int) by omega) (a.trans b.symm)
end
end K45

/-! The law's moved whole rows. -/
namespace K45
open PySem PySem.Spec PyProof.Rows L2
/-- where an item goes -/
def mwI (r b : List Int) (k : Int) (i : Nat) : Nat := seatN r (lsum r b (pl r i) k)
def mwL (r b : List Int) (k sg : Int) (xs : List Int) : Nat → List Int
  | 0 => List.replicate (placesL r).length 0
  | i + 1 => (mwL r b k sg xs i).set (mwI r b k i) (sg * xs.getD i 0)
theorem mwL_len (r b : List Int) (k sg : Int) (xs : List Int) : ∀ i, (mwL r b k sg xs i).length = (placesL r).length
  | 0 => List.length_replicate
  | i + 1 => by
    show (List.set _ _ _).length = _
    rw [List.length_set, mwL_len r b k sg xs i]
theorem mw_in : ∀ r ∈ RR, ∀ b ∈ placesL r, ∀ x ∈ placesL r, ∀ k ∈ ([1, -1] : List Int), lsum r b x k ∈ placesL r := by decide +kernel
section
variable {P : Program} {w : World} {K : PySem.W.Frag} {mg : Str → Option Value} {base : Heap} {f f1 f2 f3 f4 f5 : Addr} {fd fd1 fd2 fd3 fd4 fd5 : FuncData}
def spLMW (K : PySem.W.Frag) : Sp := fun vs H Q _ => ∃ (d l : Addr) (W : Wd) (u : V) (r xs : List Int), vs = [.ref d, .ref W.w, u] ∧ DeckAt d l H ∧ W.Off d l ∧ WrAt K H W r ∧ TupI K H u xs ∧ xs.length = (placesL r).length ∧ ∀ v b k sg H', DeckAt d l H' → Keeps d l H H' → b ∈ placesL r → (k = 1 ∨ k = -1) → (sg = 1 ∨ sg = -1) → TupI K H' v (mwL r b k sg xs (placesL r).length) → Q v H'
abbrev mwN : List Str := ["deck", "world", "whole", "by", "k", "sign", "found", "place", "x"]
theorem scMW : FnScope mwN ["deck", "world", "whole"] (defScope sLMovedW) := ⟨rfl, rfl, rfl, by decide +kernel, rfl, by decide +kernel, by decide +kernel⟩
theorem ok_lMW (F : FnP K "_law_moved_whole" sLMovedW f fd) (B : Bl mg) (F1 : FnP K "_law_draw" sDraw f1 fd1) (g1 : mg "_law_draw" = some (.ref f1)) (G1 : FnOk P w K mg base CX0 1 f1 fd1 ["deck", "many"] spDraw)
    (F2 : FnP K "_law_pick" sPick f2 fd2) (g2 : mg "_law_pick" = some (.ref f2)) (G2 : FnOk P w K mg base CX0 2 f2 fd2 ["deck", "some"] (spPick K))
    (F3 : FnP K "_law_sum" sLSum f3 fd3) (g3 : mg "_law_sum" = some (.ref f3)) (G3 : FnOk P w K mg base CX0 1 f3 fd3 ["rings", "place", "other", "k"] (spLSum K)) : FnOk P w K mg base CX0 3 f fd ["deck", "world", "whole"] (spLMW K) := by
  have b1 : Binds K fd1 ["deck", "many"] [] := F1.bindsN fun _ _ _ _ _ _ us hl => match us, hl with | [_, _], _ => rfl
  have b2 : Binds K fd2 ["deck", "some"] [] := F2.bindsN fun _ _ _ _ _ _ us hl => match us, hl with | [_, _], _ => rfl
  have b3 : Binds K fd3 ["rings", "place", "other", "k"] [] := F3.bindsN fun _ _ _ _ _ _ us hl => match us, hl with | [_, _, _, _], _ => rfl
  refine F.ok scMW (fun vs H Q E h => ?_) (fun cdv A outer s H vs Q E hr h => ?_)
  · obtain ⟨d, l, W, u, r, xs, rfl, _⟩ := h
    rfl
  · obtain ⟨d, l, W, u, r, xs, rfl, D, of, hW, ⟨a, rfl, ha⟩, xl, k⟩ := h
    have hu := hu_of hr
    refine ⟨_, PSs.nox (pss_cons (ps_par (i := 3) (j := 4) rfl scMW.nd rfl rfl (by decide) rfl rfl (pa_cons (pe_call G2 hr (by rfl) g2 F2.kp b2 .nil pass0 (pa_cons (pv 0) (pa_cons (pe_dget hu (pv 1) pe_str (fun _ _ => rfl)) pa_nil))) (pa_cons (pe_op op_sub pe_int (pe_op op_mul pe_int (pe_call G1 (hr.mono (by decide)) (by rfl) g1 F1.kp b1 .nil pass0 (pa_cons (pv 0) (pa_cons pe_int pa_nil))))) pa_nil)) rfl)
      (pss_cons (ps_par (i := 5) (j := 6) rfl scMW.nd rfl rfl (by decide) rfl rfl (pa_cons (pe_op op_sub pe_int (pe_op op_mul pe_int (pe_call G1 (hr.mono (by decide)) (by rfl) g1 F1.kp b1 .nil pass0 (pa_cons (pv 0) (pa_cons pe_int pa_nil))))) (pa_cons (pe_op op_rep (pe_lst (pa_cons pe_int pa_nil)) (pe_callB call_len_seq (by rfl) (B "len" (by decide +kernel)) PySem.boot_len (pa_cons (pv 2) pa_nil))) pa_nil)) rfl)
      (pss_cons (ps_for PassesOwn.never rfl (pi_zipM (by rfl) (B "zip" (by decide +kernel)) (pa_cons (pe_dget hu (pv 1) pe_str (fun _ _ => rfl)) (pa_cons (pv 2) pa_nil))) (pg_tup rfl (pgs_cons (pg_name (i := 7) scMW.nd rfl (Or.inl rfl)) (pgs_cons (pg_name (i := 8) scMW.nd rfl (Or.inl rfl)) pgs_nil)))
        (pss_one (ps_asg (pe_op op_mul (pv 5) (pv 8)) (pg_sub (pv 6) (pe_dget hu (pe_dget hu (pv 1) pe_str (fun _ _ => rfl)) (pe_call G3 (hr.mono (by decide)) (by rfl) g3 F3.kp b3 .nil pass0 (pa_cons (pe_dget hu (pv 1) pe_str (fun _ _ => rfl)) (pa_cons (pv 3) (pa_cons (pv 7) (pa_cons (pv 4) pa_nil))))) (fun _ _ => rfl)) set_list))))
      (pss_one (ps_ret (pe_callTy call_tuple_of (by rfl) (B "tuple" (by decide +kernel)) (by decide +kernel) (pa_cons (pv 6) pa_nil))))))), ?_⟩
    have h14 := hW.rr
    have h16 := rr_pl0 r h14
    have nd := rr_nd r h14
    obtain ⟨kp0, p10, p20, p30⟩ := id hW.P
    have kl0 : kp0.length = (placesL r).length := by rw [← p20, List.length_map]
    have tp := wo_pos r h14
    refine ⟨_, rfl, _, rfl, W.w, _, rfl, hW.gP, d, l, W.P, rf kp0, rfl, D, p10, of.P, by rw [List.length_map]; omega, by rw [List.length_map]; omega, fun v H1 hv D1 K1 => ?_⟩
    obtain ⟨q, hq, rfl⟩ := List.mem_map.mp hv
    have hqb : q.2 ∈ placesL r := by rw [← p20]; exact List.mem_map_of_mem hq
    refine ⟨_, rfl, d, l, 2, rfl, D1, by decide, by decide, fun y H2 y0 y1 D2 K2 => ?_⟩
    refine ⟨_, _, rfl, rfl, Or.inl ⟨by omega, by omega⟩, _, _, rfl, rfl, _, _, rfl, ?_⟩
    refine ⟨_, rfl, d, l, 2, rfl, D2, by decide, by decide, fun z H3 z0 z1 D3 K3 => ?_⟩
    have K03 := (K1.trans K2).trans K3
    have K13 := K2.trans K3
    refine ⟨_, _, rfl, rfl, Or.inl ⟨by omega, by omega⟩, _, _, rfl, rfl, ?_⟩
    refine ⟨(by show 1 ≤ sizeLine; decide), fun g ng => ?_⟩
    have sg : Same H3 (upd H3 g (.lst [.int 0])) := same_upd ng
    have ha3 := K03.sqt D ha
    refine ⟨_, rfl, a, xs.map V.int, rfl, .inr (sg.tup ha3), g, _, _, rfl, rfl, upd_same, by omega, by rw [List.length_map]; omega, sl_1000 (by rw [List.length_map]; simp; omega), fun F nF => ?_⟩
    rw [List.length_map, rep_flat, Int.toNat_natCast, xl]
    have sF := same_new (o := .lst (List.replicate (placesL r).length (V.int 0))) sg nF
    generalize hH4 : upd (upd H3 g (.lst [.int 0])) F (.lst (List.replicate (placesL r).length (V.int 0))) = H4 at sF
    have gF : H4 F = some (.lst ((mwL r q.2 (1 - 2 * y) (1 - 2 * z) xs 0).map V.int)) := by
      rw [← hH4, upd_same]
      simp [mwL]
    clear hH4
    have nF3 : H3 F = none := sg.free nF
    have oF := off_deck D3 nF3
    have D4 := sF.deck D3
    have hW3 := K03.wr D of hW
    obtain ⟨kp, p1, p2, p3⟩ := id hW3.P
    have kl : kp.length = (placesL r).length := by rw [← p2, List.length_map]
    have tq : SqT K H3 q.1 (q.2.map V.int) := SqT.of (K03.tp0 D (p30.out q hq))
    have hk : (1 - 2 * y = 1 ∨ 1 - 2 * y = -1) := by omega
    have hs : (1 - 2 * z = 1 ∨ 1 - 2 * z = -1) := by omega
    obtain ⟨kk, hkk⟩ : ∃ kk, kk = 1 - 2 * y := ⟨_, rfl⟩
    obtain ⟨ss, hss⟩ : ∃ ss, ss = 1 - 2 * z := ⟨_, rfl⟩
    rw [← hkk] at gF hk
    rw [← hss] at gF hs
    have hkm : kk ∈ ([1, -1] : List Int) := by rcases hk with rfl | rfl <;> decide
    refine ⟨_, _, rfl, ?_⟩
    refine ⟨_, rfl, W.w, _, rfl, (sF.wr hW3).gP, _, rfl, W.P, a, rf kp, xs.map V.int, rfl, SqL.of (sF _ _ p1), sF.tup ha3, ?_⟩
    have xkl : (xs.map V.int).length = (rf kp).length := by rw [List.length_map, List.length_map, kl, xl]
    refine for_it (walk_zipM (K := K) (a := W.P) (b := a) (xs := rf kp) (ys := xs.map V.int) xkl) (fun i σ H5 => ∃ u7 u8, σ = [some (.ref d), some (.ref W.w), some (.ref a), some (.ref q.1), some (.int kk), some (.int ss), some (.ref F), u7, u8] ∧ Same H3 H5 ∧ H5 F = some (.lst ((mwL r q.2 kk ss xs i).map V.int)))
      ⟨none, none, by rw [hkk, hss]; rfl, sF, gF⟩ (fun i σ H5 _ ⟨_, _, _, s5, _⟩ => ⟨SqL.of (s5 _ _ p1), s5.tup ha3⟩) ?_ ?_
    · rintro i v σ H5 H6 hi ⟨u7, u8, rfl, s5, g5⟩ ⟨T5, x1, x2, rfl, hT, rfl, e1, e2⟩
      obtain ⟨q', rfl, hq'⟩ := getR e1
      obtain ⟨x, rfl, hx⟩ := getI e2
      have hqm' := List.mem_of_getElem? hq'
      have hj2 : (placesL r)[i]? = some q'.2 := by rw [← p2, List.getElem?_map, hq']; rfl
      have hjp := List.mem_of_getElem? hj2
      have il := ltL hj2
      have epl : pl r i = q'.2 := by show (placesL r).getD i [] = _; rw [List.getD_eq_getElem?_getD, hj2]; rfl
      have sT : Same H5 (upd H5 T5 (.tup [.ref q'.1, .int x])) := same_upd hT
      generalize hH6 : upd H5 T5 (.tup [.ref q'.1, .int x]) = H6 at sT
      have gT : H6 T5 = some (.tup [.ref q'.1, .int x]) := by rw [← hH6, upd_same]
      have t6 := s5.trans sT
      have hW6 := t6.wr hW3
      refine ⟨T5, _, rfl, SqT.of gT, rfl, _, _, rfl, _, _, rfl, rfl, ?_⟩
      have hm := mw_in r h14 q.2 hqb q'.2 hjp kk hkm
      refine ⟨_, rfl, _, rfl, _, _, rfl, rfl, Or.inl ⟨by omega, by omega⟩, ?_⟩
      refine ⟨_, rfl, _, rfl, W.w, _, rfl, hW6.gS, _, rfl, W.w, _, rfl, hW6.gR, _, rfl, _, rfl, _, rfl, _, _, _, r, q.2, q'.2, kk, rfl, ⟨W.R, rfl, hW6.R⟩, ⟨q.1, rfl, t6.tup tq⟩, ⟨q'.1, rfl, SqT.of (t6 _ _ (p3.out q' hqm'))⟩, h14, rr_whole h14 hqb, rr_whole h14 hjp, by omega, by omega, fun tk H7 s7 ntk htk => ?_⟩
      have mlt := seat_lt hm
      have hx' := idx_get hm
      have emw : mwI r q.2 kk i = seatN r (lsum r q.2 q'.2 kk) := by unfold mwI; rw [epl]
      generalize hmm : seatN r (lsum r q.2 q'.2 kk) = m at mlt emw
      have hxm : (placesL r)[m]? = some (lsum r q.2 q'.2 kk) := by rw [← hmm]; exact hx'
      have hv : valV (tabK (placesL r) (upI (placesL r).length)) (kT (lsum r q.2 q'.2 kk)) = some (V.int (m : Nat)) := tabK_val nd hxm (by
        unfold upI
        rw [List.getElem?_map, List.getElem?_range mlt]
        rfl)
      have dgt : DGet H7 W.S (.ref tk) (some (V.int (m : Nat))) := by
        rw [← hv]
        exact DGet.t (k := kT (lsum r q.2 q'.2 kk)) (s7 _ _ hW6.S) (by rw [kT_V]; exact htk)
      have ml := mwL_len r q.2 kk ss xs i
      have g7 := (sT.trans s7) _ _ g5
      refine ⟨W.S, _, rfl, dgt, F, _, _, m, rfl, rfl, g7, ?_, ?_⟩
      · rw [List.length_map, ml]
        exact ixN_nat (by omega)
      · refine ⟨_, _, rfl, same_at (t6.trans s7) nF3, ?_⟩
        rw [upd_same, ← List.map_set]
        show _ = some (HO.lst (((mwL r q.2 kk ss xs i).set (mwI r q.2 kk i) (ss * xs.getD i 0)).map V.int))
        have gx : xs.getD i 0 = x := by rw [List.getD_eq_getElem?_getD, hx]; rfl
        rw [emw, gx]
    · rintro σ H5 ⟨u7, u8, rfl, s5, g5⟩
      rw [List.length_map, kl] at g5
      refine ⟨_, rfl, F, _, rfl, .inl ⟨SqL.of g5, fun t nt => ?_⟩⟩
      have st : Same H5 (upd H5 t (.tup ((mwL r q.2 kk ss xs (placesL r).length).map V.int))) := same_upd nt
      exact k _ q.2 kk ss _ ((s5.trans st).deck D3) (K03.trans (Same.keeps (s5.trans st))) hqb hk hs ⟨t, rfl, SqT.of upd_same⟩
end
end K45

/-! Counts of moved, raised, multiplied whole rows. -/
namespace K45
open PySem PySem.Spec PyProof.Rows L2
theorem mv_ds : ∀ r ∈ RR, ∀ z ∈ List.range (placesL r).length, ∀ i ∈ List.range (placesL r).length, mvI r (pl r z) i = dS r (pl r i) (pl r z) := by decide +kernel
section
variable {r : List Int}
theorem pl_seat' {x : List Int} (hx : x ∈ placesL r) : pl r (seatN r x) = x := by
  show (placesL r).getD (seatN r x) [] = x
  rw [List.getD_eq_getElem?_getD]
  have := idx_get hx
  unfold seatN
  rw [this]
  rfl
theorem rg_get {n k : Nat} (f : Nat → Int) (h : k < n) : ((List.range n).map f).getD k 0 = f k := vecL_get h
theorem emod_sub (a b n : Int) : (a % n - b) % n = (a - b) % n := by
  rw [Int.sub_emod, Int.emod_emod, ← Int.sub_emod]
theorem sub_emod2 (a b n : Int) : (a - b % n) % n = (a - b) % n := by
  rw [Int.sub_emod, Int.emod_emod, ← Int.sub_emod]
theorem al1 (x b y : List Int) : difL r (sumP r x b) y = sumP r (difL r x y) b := by
  unfold difL
  refine List.map_congr_left fun k hk => ?_
  have hk := List.mem_range.mp hk
  unfold sumP
  rw [rg_get _ hk, rg_get _ hk, emod_sub, Int.emod_add_emod]
  congr 1
  omega
theorem al2 (b x y : List Int) : difL r (difL r b x) y = difL r b (sumP r x y) := by
  show (List.range r.length).map _ = (List.range r.length).map _
  refine List.map_congr_left fun k hk => ?_
  have hk := List.mem_range.mp hk
  unfold sumP
  rw [rg_get _ hk]
  show ((difL r b x).getD k 0 - y.getD k 0) % r.getD k 0 = _
  unfold difL
  rw [rg_get _ hk, emod_sub, sub_emod2]
  congr 1
  omega
theorem al3 (b x : List Int) : lsum r b x 1 = sumP r x b := by
  unfold lsum sumP
  refine List.map_congr_left fun k _ => ?_
  congr 1
  omega
theorem mw_one' (h : r ∈ RR) {b : List Int} (i : Nat) : mwI r b 1 i = fwI r b i := by
  unfold mwI fwI
  rw [al3]
  rfl
theorem mw_neg (h : r ∈ RR) {b : List Int} (hb : b ∈ placesL r) {i : Nat} (hi : i < (placesL r).length) : mwI r b (-1) i = dS r b (pl r i) := by
  unfold mwI dS
  rw [(dif_all r h b hb _ (at_pl hi).2).1]
theorem ds_lt' (h : r ∈ RR) {b : List Int} (hb : b ∈ placesL r) {i : Nat} (hi : i < (placesL r).length) : dS r b (pl r i) < (placesL r).length := seat_lt (dif_all r h b hb _ (at_pl hi).2).2.1
theorem pl_ds (h : r ∈ RR) {b : List Int} (hb : b ∈ placesL r) {i : Nat} (hi : i < (placesL r).length) : pl r (dS r b (pl r i)) = difL r b (pl r i) := pl_seat' (dif_all r h b hb _ (at_pl hi).2).2.1
theorem ds_ds (h : r ∈ RR) {b : List Int} (hb : b ∈ placesL r) {i : Nat} (hi : i < (placesL r).length) : dS r b (pl r (dS r b (pl r i))) = i := by
  have q := ds_inv r h (seatN r b) (List.mem_range.mpr (seat_lt hb)) i (List.mem_range.mpr hi)
  rw [pl_seat' hb] at q
  exact q
theorem pl_fw (h : r ∈ RR) {b : List Int} (hb : b ∈ placesL r) {i : Nat} (hi : i < (placesL r).length) : pl r (fwI r b i) = sumP r (pl r i) b := (fw_ok h hb hi).2.1
theorem ds_fw (h : r ∈ RR) {b : List Int} (hb : b ∈ placesL r) {i z : Nat} (hi : i < (placesL r).length) (hz : z < (placesL r).length) : dS r (pl r (fwI r b i)) (pl r z) = fwI r b (dS r (pl r i) (pl r z)) := by
  have e1 : fwI r b (dS r (pl r i) (pl r z)) = seatN r (sumP r (pl r (dS r (pl r i) (pl r z))) b) := rfl
  rw [e1, pl_ds h (at_pl hi).2 hz, pl_fw h hb hi]
  unfold dS
  rw [al1]
theorem ds_dsb (h : r ∈ RR) {b : List Int} (hb : b ∈ placesL r) {i z : Nat} (hi : i < (placesL r).length) (hz : z < (placesL r).length) : dS r (pl r (dS r b (pl r i))) (pl r z) = dS r b (pl r (fwI r (pl r z) i)) := by
  rw [pl_ds h hb hi, pl_fw h (at_pl hz).2 hi]
  unfold dS
  rw [al2]
theorem fw_ds (h : r ∈ RR) {i z : Nat} (hi : i < (placesL r).length) (hz : z < (placesL r).length) : fwI r (pl r z) (dS r (pl r i) (pl r z)) = i := by
  rw [← mv_ds r h z (List.mem_range.mpr hz) i (List.mem_range.mpr hi)]
  exact (mv_ok h (at_pl hz).2 hi).2
theorem ds_of_fw (h : r ∈ RR) {i z : Nat} (hi : i < (placesL r).length) (hz : z < (placesL r).length) : dS r (pl r (fwI r (pl r z) i)) (pl r z) = i := by
  have f := fw_ok h (at_pl hz).2 hi
  rw [← mv_ds r h z (List.mem_range.mpr hz) _ (List.mem_range.mpr f.1)]
  exact f.2.2
/-- what stands where after the moving -/
theorem mwL_get (h : r ∈ RR) {b : List Int} (hb : b ∈ placesL r) {k : Int} (hk : k = 1 ∨ k = -1) (sg : Int) (xs : List Int) {i : Nat} (hi : i < (placesL r).length) : ∀ m, m ≤ (placesL r).length → i < m → (mwL r b k sg xs m).getD (mwI r b k i) 0 = sg * xs.getD i 0
  | 0, _, q => absurd q (Nat.not_lt_zero i)
  | m + 1, hm, q => by
    have inj : ∀ {i j : Nat}, i < (placesL r).length → j < (placesL r).length → mwI r b k i = mwI r b k j → i = j := fun {i j} hi hj e => by
      rcases hk with rfl | rfl
      · rw [mw_one' h, mw_one' h] at e
        have a := (fw_ok h hb hi).2.2
        rw [e, (fw_ok h hb hj).2.2] at a
        exact a.symm
      · rw [mw_neg h hb hi, mw_neg h hb hj] at e
        have a := ds_ds h hb hi
        rw [e, ds_ds h hb hj] at a
        exact a.symm
    have lt : mwI r b k m < (placesL r).length := by
      rcases hk with rfl | rfl
      · rw [mw_one' h]
        exact (fw_ok h hb (by omega)).1
      · rw [mw_neg h hb (by omega)]
        exact ds_lt' h hb (by omega)
    show ((mwL r b k sg xs m).set (mwI r b k m) (sg * xs.getD m 0)).getD (mwI r b k i) 0 = _
    rw [getD_set (by rw [mwL_len]; exact lt)]
    by_cases c : mwI r b k i = mwI r b k m
    · rw [if_pos c, inj hi (by omega) c]
    · rw [if_neg c]
      exact mwL_get h hb hk sg xs hi m (by omega) (by
        have : i ≠ m := fun z => c (by rw [z])
        omega)
theorem list_ext {xs ys : List Int} {n : Nat} (hx : xs.length = n) (hy : ys.length = n) (e : ∀ i, i < n → xs.getD i 0 = ys.getD i 0) : xs = ys := ext_getD (by rw [hx, hy]) fun k hk => e k (by omega)
theorem sq_one {sg : Int} (hs : sg = 1 ∨ sg = -1) (a b : Int) : sg * a * (sg * b) = a * b := by
  rcases hs with rfl | rfl
  · rw [Int.one_mul, Int.one_mul]
  · have e1 : -1 * a = -a := by omega
    have e2 : -1 * b = -b := by omega
    rw [e1, e2, Int.neg_mul_neg]
theorem ct_mw (h : r ∈ RR) {b : List Int} (hb : b ∈ placesL r) {k : Int} (hk : k = 1 ∨ k = -1) {sg : Int} (hs : sg = 1 ∨ sg = -1) (xs : List Int) : ctL r (mwL r b k sg xs (placesL r).length) = ctL r xs := by
  refine list_ext (ctL_len r _) (ctL_len r xs) fun z hz => ?_
  rw [ctL_get r _ hz, ctL_get r _ hz]
  have G : ∀ {i}, i < (placesL r).length → (mwL r b k sg xs (placesL r).length).getD (mwI r b k i) 0 = sg * xs.getD i 0 := fun hi => mwL_get h hb hk sg xs hi _ (Nat.le_refl _) hi
  generalize mwL r b k sg xs (placesL r).length = ys at G
  rcases hk with rfl | rfl
  · have e := sm_reidx (f := fun i => ys.getD i 0 * ys.getD (dS r (pl r i) (pl r z)) 0) (σ := fwI r b) (τ := mvI r b) (n := (placesL r).length) (fun i hi => (fw_ok h hb hi).1) (fun i hi => (fw_ok h hb hi).2.2) (fun j hj => mv_ok h hb hj)
    rw [← e]
    refine sm_congr fun i hi => ?_
    have g1 := G hi
    have g2 := G (ds_lt h hi hz)
    rw [mw_one' h] at g1 g2
    rw [ds_fw h hb hi hz, g1, g2, sq_one hs]
  · have e := sm_reidx (f := fun i => ys.getD i 0 * ys.getD (dS r (pl r i) (pl r z)) 0) (σ := fun i => dS r b (pl r i)) (τ := fun i => dS r b (pl r i)) (n := (placesL r).length) (fun i hi => ds_lt' h hb hi) (fun i hi => ds_ds h hb hi) (fun j hj => ⟨ds_lt' h hb hj, ds_ds h hb hj⟩)
    rw [← e]
    have hzp := (at_pl hz).2
    have e2 := sm_reidx (f := fun i => xs.getD i 0 * xs.getD (dS r (pl r i) (pl r z)) 0) (σ := fwI r (pl r z)) (τ := mvI r (pl r z)) (n := (placesL r).length) (fun i hi => (fw_ok h hzp hi).1) (fun i hi => (fw_ok h hzp hi).2.2) (fun j hj => mv_ok h hzp hj)
    rw [← e2]
    refine sm_congr fun i hi => ?_
    have f := (fw_ok h hzp hi).1
    have g1 := G hi
    have g2 := G f
    rw [mw_neg h hb hi] at g1
    rw [mw_neg h hb f] at g2
    rw [ds_dsb h hb hi hz, g1, g2, sq_one hs, ds_of_fw h hi hz, Int.mul_comm]
theorem getD_mapz {xs : List Int} (f : Int → Int) {i : Nat} (hi : i < xs.length) : (xs.map f).getD i 0 = f (xs.getD i 0) := by
  rw [List.getD_eq_getElem?_getD, List.getElem?_map, List.getElem?_eq_getElem hi, List.getD_eq_getElem?_getD, List.getElem?_eq_getElem hi]
  rfl
theorem ct_mul (h : r ∈ RR) {xs : List Int} (hl : xs.length = (placesL r).length) (k : Int) {z : Nat} (hz : z < (placesL r).length) : (ctL r (xs.map fun x => k * x)).getD z 0 = k * k * (ctL r xs).getD z 0 := by
  rw [ctL_get r _ hz, ctL_get r _ hz, ← sm_mul]
  refine sm_congr fun i hi => ?_
  rw [getD_mapz _ (by omega), getD_mapz _ (by have := ds_lt h hi hz; omega)]
  ac_rfl
theorem sm_const (c : Int) : ∀ n : Nat, sm n (fun _ => c) = (n : Int) * c
  | 0 => by show (0 : Int) = _; simp
  | n + 1 => by
    show sm n (fun _ => c) + c = _
    rw [sm_const c n, Int.natCast_add, Int.add_mul]
    simp
theorem ct_add (h : r ∈ RR) {xs : List Int} (hl : xs.length = (placesL r).length) (m : Int) {z : Nat} (hz : z < (placesL r).length) : (ctL r (xs.map fun x => x + m)).getD z 0 = (ctL r xs).getD z 0 + (2 * m * sm (placesL r).length (fun i => xs.getD i 0) + ((placesL r).length : Int) * (m * m)) := by
  rw [ctL_get r _ hz, ctL_get r _ hz]
  have hzp := (at_pl hz).2
  have e2 : sm (placesL r).length (fun i => xs.getD (dS r (pl r i) (pl r z)) 0) = sm (placesL r).length (fun i => xs.getD i 0) := sm_reidx (f := fun i => xs.getD i 0) (σ := fun i => dS r (pl r i) (pl r z)) (τ := fun i => fwI r (pl r z) i) (fun i hi => ds_lt h hi hz) (fun i hi => fw_ds h hi hz) (fun j hj => ⟨(fw_ok h hzp hj).1, ds_of_fw h hj hz⟩)
  have e3 : sm (placesL r).length (fun i => (xs.map fun x => x + m).getD i 0 * (xs.map fun x => x + m).getD (dS r (pl r i) (pl r z)) 0) = sm (placesL r).length (fun i => (xs.getD i 0 * xs.getD (dS r (pl r i) (pl r z)) 0 + m * xs.getD i 0) + (m * xs.getD (dS r (pl r i) (pl r z)) 0 + m * m)) := sm_congr fun i hi => by
    rw [getD_mapz _ (by omega), getD_mapz _ (by have := ds_lt h hi hz; omega), Int.add_mul, Int.mul_add, Int.mul_add, Int.mul_comm (xs.getD i 0) m]
  rw [e3, sm_add, sm_add, sm_add, sm_mul, sm_mul, e2, sm_const]
  generalize sm (placesL r).length (fun i => xs.getD i 0) = S
  have e4 : 2 * m * S = m * S + m * S := by rw [Int.mul_assoc]; omega
  rw [e4]
  omega
theorem lev_of_ct {xs ys : List Int} (e : ctL r ys = ctL r xs) : (Lev r ys ↔ Lev r xs) ∧ Fl r ys = Fl r xs := by
  unfold Lev Fl
  rw [e]
  exact ⟨Iff.rfl, rfl⟩
theorem lev_add (h : r ∈ RR) {xs : List Int} (hl : xs.length = (placesL r).length) (m : Int) : (Lev r (xs.map fun x => x + m) ↔ Lev r xs) ∧ Fl r (xs.map fun x => x + m) = Fl r xs := by
  have tp := two_pos r h
  refine ⟨⟨fun q i i1 hi => ?_, fun q i i1 hi => ?_⟩, ?_⟩
  · have a := q i i1 hi
    rw [ct_add h hl m hi, ct_add h hl m tp] at a
    omega
  · have a := q i i1 hi
    rw [ct_add h hl m hi, ct_add h hl m tp]
    omega
  · unfold Fl
    rw [ct_add h hl m (show 0 < (placesL r).length by omega), ct_add h hl m tp]
    omega
theorem lev_mul (h : r ∈ RR) {xs : List Int} (hl : xs.length = (placesL r).length) {k : Int} (hk : k ≠ 0) : (Lev r (xs.map fun x => k * x) ↔ Lev r xs) ∧ Fl r (xs.map fun x => k * x) = k * k * Fl r xs := by
  have tp := two_pos r h
  have k2 : k * k ≠ 0 := by
    intro c
    rcases Int.mul_eq_zero.mp c with z | z <;> exact hk z
  refine ⟨⟨fun q i i1 hi => ?_, fun q i i1 hi => ?_⟩, ?_⟩
  · have a := q i i1 hi
    rw [ct_mul h hl k hi, ct_mul h hl k tp] at a
    exact Int.eq_of_mul_eq_mul_left k2 a
  · have a := q i i1 hi
    rw [ct_mul h hl k hi, ct_mul h hl k tp, a]
  · unfold Fl
    rw [ct_mul h hl k (show 0 < (placesL r).length by omega), ct_mul h hl k tp, Int.mul_sub]
end
end K45

/-! sum(..) of a tuple; bounds. -/
namespace K45
open PySem PySem.Spec PyProof.Rows L2
section
variable {X : Cx}
theorem preSum_sm (f : Nat → Int) : ∀ n, preSum f n = sm n f
  | 0 => rfl
  | n + 1 => by
    show preSum f n + f n = sm n f + f n
    rw [preSum_sm f n]
def rSumT (K : PySem.W.Frag) : List V → Hp → VK → Prop := fun vs H Q => ∃ (a : Addr) (ns : List Int), vs = [V.ref a] ∧ SqT K H a (ns.map V.int) ∧ Q (.int ns.sum) H
theorem cr_sumT (hc : X.calm = true) : CallR X (.builtin "sum") (rSumT X.K) := by
  intro pins s σ H vs us Q I r h
  obtain ⟨a, ns, rfl, hs, q⟩ := h
  obtain ⟨its, rv, p, _⟩ := I.tuple hs
  rw [Vals.ref1 r]
  have hlt : a < s.heap.objs.size := by
    obtain ⟨_, e, _⟩ := id p
    exact Heap.lt_size e
  refine call_sum_walkG (wpAny_pyIter_tuple p ?_)
  refine ⟨s.heap.objs.size, _, _, _, _, _, fun i => ns.getD i 0, rfl, Walks.tuple (A := X.A.in1) (I.ok.hd hc) s.heap.objs.size a (Nat.ne_of_lt hlt) its.toArray, ⟨⟨_, Heap.get?_push_size _ rfl, rfl, rfl⟩, p.push _⟩, ?_, ?_, fun h' tk t' hk => ?_⟩
  · intro b hb
    rw [Heap.size_push]
    have z := List.mem_cons.mp hb
    rcases z with z | z
    · rw [z]
      exact Nat.lt_succ_self _
    · rw [List.mem_singleton.mp z]
      exact Nat.lt_succ_of_lt hlt
  · intro i v e
    have hv' : its[i]? = some v := by simpa using e
    have hl : i < ns.length := by
      have h1 := ltL hv'
      have h2 := rv.length
      rw [List.length_map] at h2
      omega
    obtain ⟨u, hu, ru⟩ := rv.get (getD_of hl)
    rw [hv'] at hu
    cases hu
    exact (show ∃ t, v = Value.int (ns.getD i 0) t from ru)
  · refine ⟨.int ns.sum, H, I.kept fun b o eo => hk b o (fun hm => ?_) (Heap.get?_push_of_some _ eo), ?_, q⟩
    · have e1 := List.mem_singleton.mp hm
      rw [e1] at eo
      exact Nat.lt_irrefl _ (Heap.lt_size eo)
    · have hl := rv.length
      rw [List.length_map] at hl
      refine ⟨t', ?_⟩
      rw [preSum_sm, List.size_toArray, ← hl, ← list_sm]
end
end K45

/-! Calls by name alone. -/
namespace K45
open PySem PySem.Spec PyProof.Rows L2
section
variable {X : Cx} {CX : CXT} {k : Nat} {f C : Addr} {fd : FuncData} {ps ks : List Str} {sp : Sp} {E : XK} {x m : Str} {p pos apos kpos : Pos} {kws : List Keyword} {tk : TA} {g : List Value → List Value → List Value} {gV : List V → List V → List V}
/-- f(k = v, ..), nothing by position -/
theorem pe_callK0 (F : FnOk X.prog X.w X.K X.mg X.base CX k f fd ps sp) (hr : Room k X.A) (hg : Gl X x) (hm : X.mg x = some (.ref f)) (hk : PySem.W.keepIn X.K (.ref f) = true) (hb : KBinds X.K fd ps ks g gV) (hx : Passes CX X E)
    (hkw : PK X kws tk) (hall : (backToKw pos (keywordEach kws X.env)).all (·.1.isSome) = true := by rfl) (hks : (backToKw pos (keywordEach kws X.env)).filterMap (·.1) = ks := by rfl)
    (hdb : (x == ("__debug__" : Str)) = false := by decide)
    (hpl : ((backTo pos (starEach [] X.env)).any (·.1) || (backToKw pos (keywordEach kws X.env)).any (·.1.isNone)) = false := by rfl) :
    PE X (.Call (.Name x p) [] kws pos) (tCallK sp gV E tNil tk) := by
  refine ⟨fun pins s σ H Q I h => ?_⟩
  refine wpAny_Call_Name_kw (ld_glob I hg hm ?_ hdb)
  refine PySem.W.callWith_KW0 (h₀ := X.base) I.ok.mod.kin hk hall (thn (hkw.run pos pins s σ H _ I h) fun ws s2 ⟨zs, H2, I2, rz, q2⟩ => ⟨I2.kIn, ?_⟩) hpl
  rw [hks]
  exact run_fnk (us := []) (vs := []) F hr hb hx I2 .nil rz q2
end
/-- two keywords, in the other order -/
def g2 : List Value → List Value → List Value
  | [], [p, l] => [l, p]
  | _, _ => []
def g2V : List V → List V → List V
  | [], [p, l] => [l, p]
  | _, _ => []
theorem g2_rel {vs : List V} {us : List Value} {zs : List V} {ws : List Value} (r : Vals vs us) (rz : Vals zs ws) : Vals (g2V vs zs) (g2 us ws) := by
  cases r with
  | nil =>
    cases rz with
    | nil => exact .nil
    | cons r1 rz =>
      cases rz with
      | nil => exact .nil
      | cons r2 rz =>
        cases rz with
        | nil => exact .cons r2 (.cons r1 .nil)
        | cons r4 rz => exact .nil
  | cons a b => cases rz <;> exact .nil
/-- three keywords, in the other order -/
def g3 : List Value → List Value → List Value
  | [], [p, l, r] => [r, l, p]
  | _, _ => []
def g3V : List V → List V → List V
  | [], [p, l, r] => [r, l, p]
  | _, _ => []
theorem g3_rel {vs : List V} {us : List Value} {zs : List V} {ws : List Value} (r : Vals vs us) (rz : Vals zs ws) : Vals (g3V vs zs) (g3 us ws) := by
  cases r with
  | nil =>
    cases rz with
    | nil => exact .nil
    | cons r1 rz =>
      cases rz with
      | nil => exact .nil
      | cons r2 rz =>
        cases rz with
        | nil => exact .nil
        | cons r3 rz =>
          cases rz with
          | nil => exact .cons r3 (.cons r2 (.cons r1 .nil))
          | cons r4 rz => exact .nil
  | cons a b => cases rz <;> exact .nil
theorem kb_loud {K : PySem.W.Frag} {f : Addr} {fd : FuncData} (F : FnP K "loudness" sLoud f fd) : KBinds K fd ["order", "number"] ["number", "order"] g2 g2V := by
  refine ⟨fun s us ws KX hl => ?_, fun r rz => g2_rel r rz⟩
  obtain ⟨oc, od, dV, kV, doc, pm, an, cdv, ct, osl, rfl, lk, hcd, hD, hK⟩ := F.ex
  rcases hD with ⟨_, rfl⟩ | ⟨e, _⟩
  · match us, ws, hl with
    | [], [p, l], _ => exact .of_eq rfl
    | [], [], h => exact absurd h (by decide)
    | [], [_], h => exact absurd h (by show ¬ (0 : Nat) = 2; decide)
    | [], _ :: _ :: _ :: _, h => exact absurd h (by show ¬ (0 : Nat) = 2; decide)
    | _ :: _, _, h => exact absurd h (by show ¬ (0 : Nat) = 2; decide)
  · exact absurd rfl e
theorem rep_ok {K : PySem.W.Frag} {a : Addr} {d : PyData} {H : Hp} {Q : VK} (h : Dp K H (.ref a) d) (ok : OkD 40 50000 d) (q : Q (.str d.shown) H) : rRepr K [.ref a] H Q := ⟨_, d, rfl, ⟨a, rfl⟩, h, ok, q⟩
theorem ne_same {s : Str} {H : Hp} {F : Bool → Hp → Prop} (h : F false H) : rNe (.str s) (.str s) H (fun x H' => ∃ c, x = .bl c ∧ F c H') := ⟨rfl, false, by simp, h⟩
theorem eq_same {s : Str} {H : Hp} {Q : VK} (h : Q (.bl true) H) : rEq (.str s) (.str s) H Q := ⟨rfl, by simpa using h⟩
theorem next_ifS {c : TT} {t u : TS} {D : Ends} {rt : VK} {b c' : L2.St → Hp → Prop} {σ : L2.St} {H : Hp} (h : tIfS c t u D σ H) : tNext { nx := tIfS c t u D, rt := rt, bk := b, ct := c' } σ H := h
theorem ret_op {r : R2} {ta tb : TE} {D : Ends} {σ : L2.St} {H : Hp} (h : ta σ H fun x H1 => tb σ H1 fun y H2 => r x y H2 D.rt) : tRet (tOp r ta tb) D σ H := h
theorem next_ret {r : R2} {ta tb : TE} {D : Ends} {rt : VK} {b c' : L2.St → Hp → Prop} {σ : L2.St} {H : Hp} (h : ta σ H fun x H1 => tb σ H1 fun y H2 => r x y H2 D.rt) : tNext { nx := tRet (tOp r ta tb) D, rt := rt, bk := b, ct := c' } σ H := h
theorem if_op {r : R2} {ta tb : TE} {t u : L2.TS} {D : Ends} {σ : L2.St} {H : Hp} (h : ta σ H fun x H1 => tb σ H1 fun y H2 => r x y H2 fun z H3 => ∃ k, z = .bl k ∧ (fun b H1 => if b = true then t D σ H1 else u D σ H1) k H3) : tIfS (tTest (tOp r ta tb)) t u D σ H := h
theorem seq_if {r : R2} {ta tb : TE} {t u v : L2.TS} {D : Ends} {σ : L2.St} {H : Hp} (h : ta σ H fun x H1 => tb σ H1 fun y H2 => r x y H2 fun z H3 => ∃ k, z = .bl k ∧ (fun b H1 => if b = true then t { D with nx := fun σ2 H2 => v D σ2 H2 } σ H1 else u { D with nx := fun σ2 H2 => v D σ2 H2 } σ H1) k H3) : tSeq (tIfS (tTest (tOp r ta tb)) t u) v D σ H := h
theorem set_ok {i : Nat} {x : V} {σ : L2.St} {H : Hp} {Q : L2.St → Hp → Prop} (h : Q (σ.set i (some x)) H) : gName i x σ H Q := h
theorem next_asg {te : TE} {g : TG} {t : L2.TS} {D : Ends} {rt : VK} {b c' : L2.St → Hp → Prop} {σ : L2.St} {H : Hp} (h : te σ H fun v H1 => g v σ H1 fun σ2 H2 => t D σ2 H2) : tNext { nx := tSeq (tAsg te g) t D, rt := rt, bk := b, ct := c' } σ H := h
theorem cb1_ok {r : List V → Hp → VK → Prop} {t1 : TE} {σ : L2.St} {H : Hp} {Q : VK} (h : t1 σ H fun x H1 => r [x] H1 Q) : tCB r (tCons t1 tNil) σ H Q := h
theorem tup2_ok {t1 t2 : TE} {σ : L2.St} {H : Hp} {Q : VK} (h : t1 σ H fun x H1 => t2 σ H1 fun y H2 => ([x, y] : List V).length ≤ sizeLine ∧ ∀ p, H2 p = none → Q (.ref p) (upd H2 p (.tup [x, y]))) : tTup (tCons t1 (tCons t2 tNil)) σ H Q := h
theorem tup3_ok {t1 t2 t3 : TE} {σ : L2.St} {H : Hp} {Q : VK} (h : t1 σ H fun x H1 => t2 σ H1 fun y H2 => t3 σ H2 fun z H3 => ([x, y, z] : List V).length ≤ sizeLine ∧ ∀ p, H3 p = none → Q (.ref p) (upd H3 p (.tup [x, y, z]))) : tTup (tCons t1 (tCons t2 (tCons t3 tNil))) σ H Q := h
theorem tup4_ok {t1 t2 t3 t4 : TE} {σ : L2.St} {H : Hp} {Q : VK} (h : t1 σ H fun x H1 => t2 σ H1 fun y H2 => t3 σ H2 fun z H3 => t4 σ H3 fun u H4 => ([x, y, z, u] : List V).length ≤ sizeLine ∧ ∀ p, H4 p = none → Q (.ref p) (upd H4 p (.tup [x, y, z, u]))) : tTup (tCons t1 (tCons t2 (tCons t3 (tCons t4 tNil)))) σ H Q := h
end K45

/-! Bottoms and magnitudes. -/
namespace K45
open PySem PySem.Spec PyProof.Rows L2
theorem bd_of {r : List Int} (hr : r ∈ RR) {D : Int} {ns : List Num} {M : Nat} (h : RowS r D ns) (hD : 1 ≤ D) (hD2 : D ≤ 1000000) (ha : AbsR M ns) (hM : M < 2 ^ 150) : Bd ns := fun n hn => by
  have c := h.c.num n hn
  have := Int.le_of_dvd (by omega) (h.d n hn)
  have p := c.pos
  refine ⟨fun t ht => Nat.lt_of_le_of_lt (ha n hn t ht) hM, ?_, by rw [c.len]; exact dg_le hr⟩
  have e : n.2.natAbs < 1000001 := by omega
  exact Nat.lt_of_lt_of_le e (by decide)
theorem okd_of {r : List Int} (hr : r ∈ RR) {D : Int} {ns : List Num} {M : Nat} (h : RowS r D ns) (hD : 1 ≤ D) (hD2 : D ≤ 1000000) (ha : AbsR M ns) (hM : M < 2 ^ 150) : OkD 4 560 (rowD ns) := okd_row (bd_of hr h hD hD2 ha hM) (by rw [h.c.len]; exact rr_pl0 r hr)
theorem okd_l4 {ds : List PyData} (h : ∀ d ∈ ds, OkD 4 560 d) (hl : ds.length ≤ 4) : OkD 40 50000 (.tuple ds) := (okd_tup h hl).le (by decide) (by decide)
theorem okd_two {x y : PyData} (h1 : OkD 4 560 x) (h2 : OkD 4 560 y) : OkD 40 50000 (.tuple [x, y]) := okd_l4 (fun d hd => by
  rcases List.mem_cons.mp hd with rfl | hd
  · exact h1
  · rw [List.mem_singleton.mp hd]
    exact h2) (by show 2 ≤ 4; decide)
theorem okd_one {x : PyData} (h : OkD 4 560 x) : OkD 40 50000 x := h.le (by decide) (by decide)
theorem AbsR.le {M N : Nat} {ns : List Num} (h : AbsR M ns) (e : M ≤ N) : AbsR N ns := fun n hn t ht => Nat.le_trans (h n hn t ht) e
theorem gd_c {r : List Int} (hr : r ∈ RR) {n : Num} (g : GdN (ordL r) n) : NumC (dg r) n := ⟨by rw [g.ok.len, ← (poly_len hr).2.1], g.ok.pos, g.ok.low⟩
theorem gd_row {r : List Int} (hr : r ∈ RR) {ns : List Num} (g : GdR r ns) : RowS r 6 ns ∧ AbsR 4 ns :=
  ⟨⟨⟨g.len, fun n hn => gd_c hr (g.num n hn)⟩, fun n hn => (g.num n hn).six⟩, fun n hn t ht => by have := (g.num n hn).small t ht; omega⟩
theorem rowS_tr {r : List Int} (hr : r ∈ RR) {D : Int} {ns : List Num} (h : RowS r D ns) : RowS r D (trL r ns) := ⟨rowC_tr hr h.c, fun n hn => by
  obtain ⟨m, hm, rfl⟩ := List.mem_map.mp hn
  exact h.d m hm⟩
theorem abs_tr {r : List Int} (hr : r ∈ RR) {ns : List Num} {M : Nat} (C : RowC r ns) (h : AbsR M ns) : AbsR (32 * M) (trL r ns) := fun n hn => by
  obtain ⟨m, hm, rfl⟩ := List.mem_map.mp hn
  have hp := poly_len hr
  have eb := er_bd _ (ord_er r hr)
  have cm := C.num m hm
  refine Abs.of fun j hj => ?_
  have hj' : j < dg r := by
    have q := exT_len (e := ordL r) (j := -1) (tops := m.1) (by omega)
    exact Nat.lt_of_lt_of_eq hj q
  show ((exT (ordL r) (-1) m.1).getD j 0).natAbs ≤ _
  rw [exT_co (by omega) (by omega) hj', cm.len]
  have s : (sm (dg r) (fun k => m.1.getD k 0 * Tz (dg r) (polyL (ordL r)) j (((k : Int) * -1) % ordL r).toNat)).natAbs ≤ dg r * (M * 2) := sm_abs fun k _ => by
    rw [Int.natAbs_mul]
    exact Nat.mul_le_mul ((h m hm).get k) (T_abs hr hj' _)
  have e : dg r * (M * 2) ≤ 16 * (M * 2) := Nat.mul_le_mul_right _ (dg_le hr)
  exact Nat.le_trans s (by omega)
theorem rowS_tm {r : List Int} (hr : r ∈ RR) {D : Int} {ns : List Num} (h : RowS r D ns) : RowS r D (tmL r ns) := rowS_tr hr (rowS_mir hr h)
theorem abs_mir {r : List Int} (hr : r ∈ RR) {ns : List Num} {M : Nat} (C : RowC r ns) (h : AbsR M ns) : AbsR M (mirL r ns) := absR_laid h (by rw [mirP_len, C.len]) (mir_all r hr)
theorem abs_mov {r s : List Int} (hr : r ∈ RR) (hs : s ∈ placesL r) {ns : List Num} {M : Nat} (C : RowC r ns) (h : AbsR M ns) : AbsR M (movL r s ns) := absR_laid h (by rw [movP_len, C.len]) (mov_all r hr s hs)
theorem abs_tm {r : List Int} (hr : r ∈ RR) {ns : List Num} {M : Nat} (C : RowC r ns) (h : AbsR M ns) : AbsR (32 * M) (tmL r ns) := abs_tr hr (rowC_mir hr C) (abs_mir hr C h)
theorem rowS_mix {r : List Int} (hr : r ∈ RR) {D E : Int} {a b : List Num} (A : RowS r D a) (B : RowS r E b) (hD : 1 ≤ D) (hE : 1 ≤ E) : RowS r (D * E) (mixL r a b) := by
  refine ⟨rowC_mix hr A.c B.c, fun n hn => ?_⟩
  obtain ⟨z, hz⟩ := List.mem_iff_getElem?.mp hn
  obtain ⟨t, ht, rfl⟩ := mix_get hz
  have l1 := A.lev hD a.length
  have l2 := B.lev hE b.length
  rw [List.take_length] at l1 l2
  exact Int.dvd_trans (low_dvd _ _ (mul1 l1.1 l2.1)) (Int.mul_dvd_mul l1.2.1 l2.2.1)
theorem mw_abs {r : List Int} (hr : r ∈ RR) {u v : Nat → Int} {M N : Nat} (hu : ∀ k, k < dg r → (u k).natAbs ≤ M) (hv : ∀ k, k < dg r → (v k).natAbs ≤ N) {j : Nat} (hj : j < dg r) : (mw r u v j).natAbs ≤ 512 * (M * N) := by
  have s : (mw r u v j).natAbs ≤ dg r * (M * (32 * N)) := sm_abs fun i hi => by
    rw [Int.natAbs_mul]
    exact Nat.mul_le_mul (hu i hi) (tn_abs hr _ hv hj)
  have e : dg r * (M * (32 * N)) ≤ 16 * (M * (32 * N)) := Nat.mul_le_mul_right _ (dg_le hr)
  have f : 16 * (M * (32 * N)) = 512 * (M * N) := by
    rw [show M * (32 * N) = 32 * (M * N) by ac_rfl, ← Nat.mul_assoc]
  omega
theorem Wm_abs {r : List Int} (hr : r ∈ RR) {u v : Nat → Nat → Int} {M N : Nat} (hu : ∀ x, x < (placesL r).length → ∀ k, k < dg r → (u x k).natAbs ≤ M) (hv : ∀ x, x < (placesL r).length → ∀ k, k < dg r → (v x k).natAbs ≤ N) (z : Nat) {j : Nat} (hj : j < dg r) : (Wm r u v z j).natAbs ≤ 131072 * (M * N) := by
  have p := rr_pl0 r hr
  have s : (Wm r u v z j).natAbs ≤ (placesL r).length * ((placesL r).length * (512 * (M * N))) := sm_abs fun x hx => sm_abs fun y hy => by
    split
    · exact mw_abs hr (hu x hx) (hv y hy) hj
    · exact Nat.zero_le _
  have e1 : (placesL r).length * (512 * (M * N)) ≤ 16 * (512 * (M * N)) := Nat.mul_le_mul_right _ p
  have e2 := Nat.mul_le_mul p e1
  omega
theorem abs_mix {r : List Int} (hr : r ∈ RR) {a b : List Num} {M N : Nat} (A : RowC r a) (B : RowC r b) (lA : levB a ≤ 1000) (lB : levB b ≤ 1000) (hA : AbsR M a) (hB : AbsR N b) : AbsR (131072 * (M * 1000 * (N * 1000))) (mixL r a b) := fun n hn => by
  obtain ⟨z, hz⟩ := List.mem_iff_getElem?.mp hn
  obtain ⟨t, ht, rfl⟩ := mix_get hz
  have m := mixT_at hr A B ht
  refine low_abs (mul1 (levB_one A) (levB_one B)) (Abs.of fun j hj => ?_)
  rw [m.2.1] at hj
  rw [m.2.2 j hj]
  exact Wm_abs hr (fun x hx k _ => abs_lev lA A hA hx k) (fun y hy k _ => abs_lev lB B hB hy k) z hj
theorem RowS.lv {r : List Int} {D : Int} {ns : List Num} (h : RowS r D ns) (hD : 1 ≤ D) (hD2 : D ≤ 1000) : levB ns ≤ 1000 := by
  have l1 := h.lev hD ns.length
  rw [List.take_length] at l1
  omega
theorem lev_small {r : List Int} {D : Int} {ns : List Num} {M : Nat} (h : RowS r D ns) (hD : 1 ≤ D) (hD2 : D ≤ 1000) (ha : AbsR M ns) (hM : M ≤ 1000000000000000) : ∀ ts ∈ levT ns, ∀ t ∈ ts, -(2 ^ 64) < t ∧ t < 2 ^ 64 := fun ts hts t ht => by
  obtain ⟨i, hi⟩ := List.mem_iff_getElem?.mp hts
  obtain ⟨k, hk⟩ := List.mem_iff_getElem?.mp ht
  have il := ltL hi
  rw [levT_len, h.c.len] at il
  have q := abs_lev (h.lv hD hD2) h.c ha il k
  have e : wv (levT ns) i k = t := by
    show ((levT ns).getD i []).getD k 0 = t
    have e1 : (levT ns).getD i [] = ts := by
      rw [List.getD_eq_getElem?_getD, hi]
      rfl
    rw [e1]
    rw [List.getD_eq_getElem?_getD, hk]
    rfl
  rw [e] at q
  omega
theorem mixOk_of {r : List Int} (hr : r ∈ RR) {D E : Int} {a b : List Num} {M : Nat} (A : RowS r D a) (B : RowS r E b) (hD : 1 ≤ D) (hD2 : D ≤ 1000) (hE : 1 ≤ E) (hE2 : E ≤ 1000) (hA : AbsR M a) (hM : M ≤ 1000000000000000) : MixOk r a b :=
  ⟨(A.g hr hD hD2).ok, (B.g hr hE hE2).ok, levT_dg A.c, levT_dg B.c, lev_small A hD hD2 hA hM⟩
theorem difOk_of {r : List Int} (hr : r ∈ RR) {D : Int} {a : List Num} {M : Nat} (A : RowS r D a) (hD : 1 ≤ D) (hD2 : D ≤ 1000) (hA : AbsR M a) (hM : M ≤ 1000000000000000) : DifOk r a :=
  ⟨A.g hr hD hD2, (rowS_mir hr A).g hr hD hD2, (rowS_tm hr A).g hr hD hD2, mixOk_of hr A (rowS_tm hr A) hD hD2 hD hD2 hA hM⟩
theorem rowS_dfr {r : List Int} (hr : r ∈ RR) {D : Int} {a : List Num} (A : RowS r D a) (hD : 1 ≤ D) : RowS r (D * D) (dfrL r a) := rowS_mix hr A (rowS_tm hr A) hD hD
theorem abs_dfr {r : List Int} (hr : r ∈ RR) {D : Int} {a : List Num} {M : Nat} (A : RowS r D a) (hD : 1 ≤ D) (hD2 : D ≤ 1000) (hA : AbsR M a) : AbsR (131072 * (M * 1000 * (32 * M * 1000))) (dfrL r a) :=
  abs_mix hr A.c (rowC_tm hr A.c) (A.lv hD hD2) ((rowS_tm hr A).lv hD hD2) hA (abs_tm hr A.c hA)
theorem sing_gd {r : List Int} (hr : r ∈ RR) : RowS r 1 (singL r) ∧ AbsR 1 (singL r) := by
  refine ⟨⟨⟨by rw [singL, List.length_map], fun n hn => ?_⟩, fun n hn => ?_⟩, fun n hn t ht => ?_⟩
  · obtain ⟨x, _, rfl⟩ := List.mem_map.mp hn
    exact numC_wh hr _
  · obtain ⟨x, _, rfl⟩ := List.mem_map.mp hn
    exact ⟨1, rfl⟩
  · obtain ⟨x, _, rfl⟩ := List.mem_map.mp hn
    rcases List.mem_cons.mp ht with rfl | z
    · unfold oneP
      split <;> decide
    · rw [(List.mem_replicate.mp z).2]
      decide
theorem rof_gd {r : List Int} (hr : r ∈ RR) {xs : List Int} (hl : xs.length = (placesL r).length) {M : Nat} (h : Abs M xs) : RowS r 1 (rofL r xs) ∧ AbsR M (rofL r xs) := by
  refine ⟨⟨rowC_rof hr hl, fun n hn => ?_⟩, fun n hn t ht => ?_⟩
  · obtain ⟨x, _, rfl⟩ := List.mem_map.mp hn
    exact ⟨1, rfl⟩
  · obtain ⟨x, hx, rfl⟩ := List.mem_map.mp hn
    rcases List.mem_cons.mp ht with rfl | z
    · exact h _ hx
    · rw [(List.mem_replicate.mp z).2]
      simp
theorem rowS_loud {r : List Int} (hr : r ∈ RR) {D : Int} {ns : List Num} (h : RowS r D ns) (hD : 1 ≤ D) : RowS r (D * D) (voL r (dfrL r ns)) := rowS_vo hr (rowS_dfr hr h hD) (mul1 hD hD)
/-- the counts are small -/
theorem ct_abs {r : List Int} (hr : r ∈ RR) (ps : List (List Int)) : Abs 16 (ctL r (lrow r ps)) := fun x hx => by
  obtain ⟨z, hz, rfl⟩ := List.getElem_of_mem hx
  have e : (ctL r (lrow r ps))[z] = (ctL r (lrow r ps)).getD z 0 := by rw [List.getD_eq_getElem?_getD, List.getElem?_eq_getElem hz]; rfl
  rw [ctL_len] at hz
  rw [e, ctL_get r _ hz]
  have b : ∀ i, ((lrow r ps).getD i 0).natAbs ≤ 1 := fun i => by
    unfold lrow
    rw [List.getD_eq_getElem?_getD, List.getElem?_map]
    cases (placesL r)[i]? with
    | none =>
      show (0 : Int).natAbs ≤ 1
      decide
    | some x =>
      show (if x ∈ ps then (1 : Int) else 0).natAbs ≤ 1
      split <;> decide
  have s : (sm (placesL r).length (fun i => (lrow r ps).getD i 0 * (lrow r ps).getD (dS r (pl r i) (pl r z)) 0)).natAbs ≤ (placesL r).length * 1 := sm_abs fun i _ => by
    rw [Int.natAbs_mul]
    exact Nat.mul_le_mul (b i) (b _)
  have := rr_pl0 r hr
  omega
theorem lrow_abs (r : List Int) (ps : List (List Int)) : Abs 1 (lrow r ps) := fun x hx => by
  obtain ⟨y, _, rfl⟩ := List.mem_map.mp hx
  split <;> decide
theorem lrow_len (r : List Int) (ps : List (List Int)) : (lrow r ps).length = (placesL r).length := by rw [lrow, List.length_map]
end K45

/-! flat_holds, number_of. -/
namespace K45
open PySem PySem.Spec PyProof.Rows L2
section
variable {P : Program} {w : World} {K : PySem.W.Frag} {mg : Str → Option Value} {base : Heap} {f f1 f2 f3 f4 f5 C fI fM fT : Addr} {fd fd1 fd2 fd3 fd4 fd5 fdI fdT : FuncData}
/-- where all are as loud, they are integers -/
def FlatI (r xs : List Int) : Prop := ∀ n, (LdL r xs)[1]? = some n → (∀ (j : Nat) m, 1 ≤ j → (LdL r xs)[j]? = some m → m = n) → n = whN r (n.1.getD 0 0)
def spFlatH (K : PySem.W.Frag) : Sp := fun vs H Q _ => ∃ (v u z : V) (r xs : List Int), vs = [v, u, z] ∧ TupI K H v r ∧ TupI K H u xs ∧ r ∈ RR ∧ WhOk r xs ∧ FlatI r xs ∧ JR K H z r xs ∧ ∀ H', Same H H' → Q (.bl true) H'
abbrev fhN : List Str := ["rings", "whole", "thing", "found", "loud", "label", "_", "one", "other"]
theorem scFH : FnScope fhN ["rings", "whole", "thing"] (defScope sFlatH) := ⟨rfl, rfl, rfl, by decide +kernel, rfl, by decide +kernel, by decide +kernel⟩
theorem ok_flatH (F : FnP K "flat_holds" sFlatH f fd) (B : Bl mg) (gAny : mg "any" = none) (T : FlT K mg C fI fM) (MT : Meth K C "tops_of" fT) (FI : FunD K "__init__" "Floor.__init__" (defArgs sFInit) (defBody sFInit) (defScope sFInit) [] [] fI fdI) (GI : FnOk P w K mg base CX0 3 fI fdI ["self", "rings"] (spFInit K C))
    (FT : FunD K "tops_of" "Floor.tops_of" (defArgs sFTops) (defBody sFTops) (defScope sFTops) [] [] fT fdT) (GT : FnOk P w K mg base CX0 1 fT fdT ["self", "whole"] (spTopsOf K C))
    (F1 : FnP K "_loudnesses" sLouds f1 fd1) (g1 : mg "_loudnesses" = some (.ref f1)) (G1 : FnOk P w K mg base CX0 9 f1 fd1 ["rings", "whole"] (spLouds K))
    (F2 : FnP K "is_integer" sIsInt f2 fd2) (g2 : mg "is_integer" = some (.ref f2)) (G2 : FnOk P w K mg base CX0 1 f2 fd2 ["thing"] spIsInt)
    (F3 : FnP K "is_place" sIsPl f3 fd3) (g3 : mg "is_place" = some (.ref f3)) (G3 : FnOk P w K mg base CX0 3 f3 fd3 ["rings", "thing"] (spIsPl K)) :
    FnOk P w K mg base CX0 10 f fd ["rings", "whole", "thing"] (spFlatH K) := by
  have bI : Binds K fdI ["self", "rings"] [] := FI.bindsN fun _ _ _ _ _ _ us hl => match us, hl with | [_, _], _ => rfl
  have bT : Binds K fdT ["self", "whole"] [] := FT.bindsN fun _ _ _ _ _ _ us hl => match us, hl with | [_, _], _ => rfl
  have b1 : Binds K fd1 ["rings", "whole"] [] := F1.bindsN fun _ _ _ _ _ _ us hl => match us, hl with | [_, _], _ => rfl
  have b2 : Binds K fd2 ["thing"] [] := F2.bindsN fun _ _ _ _ _ _ us hl => match us, hl with | [_], _ => rfl
  have b3 : Binds K fd3 ["rings", "thing"] [] := F3.bindsN fun _ _ _ _ _ _ us hl => match us, hl with | [_, _], _ => rfl
  refine F.ok scFH (fun vs H Q E h => ?_) (fun cdv A outer s H vs Q E hr h => ?_)
  · obtain ⟨v, u, z, r, xs, rfl, _⟩ := h
    rfl
  · obtain ⟨v, u, z, r, xs, rfl, ⟨a, rfl, ha⟩, hu', h14, wo, fi, jr, k⟩ := h
    have hu := hu_of hr
    have hu64 := hr.units
    refine ⟨_, PSs.nox (pss_cons (ps_set (i := 3) scFH.nd rfl (Or.inr rfl) (pe_call G1 hr (by rfl) g1 F1.kp b1 .nil pass0 (pa_cons (pv 0) (pa_cons (pv 1) pa_nil))))
      (pss_cons (ps_if (pt_not (pt_val (pe_callB call_isi (by rfl) (B "isinstance" (by decide +kernel)) (by decide +kernel) (pa_cons (pv 2) (pa_cons (pe_bltn (v := .ty "tuple") (by rfl) (B "tuple" (by decide +kernel)) (by decide +kernel) rfl) pa_nil))))) (pss_one (ps_ret pe_bl)) pss_nil)
      (pss_cons (ps_if (PW.pt (pw_and (pt_cmpR op_eq (pe_callB call_len_seq (by rfl) (B "len" (by decide +kernel)) PySem.boot_len (pa_cons (pv 2) pa_nil)) pe_int (nomark _)) (pw_and1 (pt_cmpR op_eq (pe_ix ix_tup (pv 2) pe_int (fun _ _ => rfl)) pe_str (nomark _)))))
        (pss_cons (ps_set (i := 4) scFH.nd rfl (Or.inr rfl) (pe_ifExp (pt_val (pe_call G2 (hr.mono (by decide)) (by rfl) g2 F2.kp b2 .nil pass0 (pa_cons (pe_ix ix_tup (pv 2) pe_int (fun _ _ => rfl)) pa_nil)))
            (pe_tup (pa_cons (pe_meth (pe_make T.mkk GI (hr.mono (by decide)) (by rfl) T.mgC bI .nil pass0 (pa_cons (pv 0) pa_nil)) T.cl MT GT (hr.mono (by decide)) bT .nil pass0 (pa_cons (pe_ix ix_tup (pv 2) pe_int (fun _ _ => rfl)) pa_nil)) (pa_cons pe_int pa_nil))) pe_non))
        (pss_one (ps_ret (pe_callB (cr_all rfl) (by rfl) (B "all" (by decide +kernel)) (by decide +kernel) (pa_cons
          (pe_lc (own := [("label", 5)]) (g := gName 5) (tt := tYes) (te := tOp (rEqD K) (tDGet (tVar 3) (tVar 5)) (tVar 4)) rfl scFH.nd (pi_list (pe_slice sl_list (pe_callTy (call_list_dT rfl) (by rfl) (B "list" (by decide +kernel)) (by decide +kernel) (pa_cons (pv 3) pa_nil)) (po_some pe_int) po_none))
            (blkOk_by (own := [("label", 5)]) (N := fhN) (sc := defScope sFlatH) (by decide +kernel)) (fun _ _ _ _ _ => pg_name (i := 5) scFH.nd rfl (Or.inl rfl)) (fun _ _ _ _ _ => pts_nil)
            (fun _ _ _ _ _ => pe_cmpR (op_eqD hu64) (pe_dget hu (pv 3) (pv 5) (fun _ _ => rfl)) (pv 4) (nomark _))) pa_nil))))) pss_nil)
      (pss_cons (ps_if (PW.pt (pw_or (pt_cmpR op_ne (pe_callB call_len_seq (by rfl) (B "len" (by decide +kernel)) PySem.boot_len (pa_cons (pv 2) pa_nil)) pe_int (nomark _)) (pw_or1 (pt_cmpR op_ne (pe_ix ix_tup (pv 2) pe_int (fun _ _ => rfl)) pe_str (nomark _))))) (pss_one (ps_ret pe_bl)) pss_nil)
      (pss_cons (ps_asg (pv 2) (pg_tup rfl (pgs_cons (pg_name (i := 6) scFH.nd rfl (Or.inl rfl)) (pgs_cons (pg_name (i := 7) scFH.nd rfl (Or.inl rfl)) (pgs_cons (pg_name (i := 8) scFH.nd rfl (Or.inl rfl)) pgs_nil)))))
      (pss_cons (ps_if (PW.pt (pw_or (pt_not (pt_val (pe_call G3 (hr.mono (by decide)) (by rfl) g3 F3.kp b3 .nil pass0 (pa_cons (pv 0) (pa_cons (pv 7) pa_nil))))) (pw_or1 (pt_not (pt_val (pe_call G3 (hr.mono (by decide)) (by rfl) g3 F3.kp b3 .nil pass0 (pa_cons (pv 0) (pa_cons (pv 8) pa_nil)))))))) (pss_one (ps_ret pe_bl)) pss_nil)
      (pss_one (ps_ret (pe_and (pe_callB (cr_anyT rfl) (by rfl) gAny (by decide +kernel) (pa_cons (pv 7) pa_nil)) (pe_and (pe_cmpR (op_ltI hu64) (pv 7) (pv 8) (nomark _))
        (pe_one (pe_cmpR (op_neD hu64) (pe_dget hu (pv 3) (pv 7) (fun _ _ => rfl)) (pe_dget hu (pv 3) (pv 8) (fun _ _ => rfl)) (nomark _))))))))))))), ?_⟩
    have tp := two_pos r h14
    have nC := Ld_num h14 wo.len
    have d1 := (tabs_of h14).d1
    refine ⟨_, rfl, _, rfl, _, _, r, xs, rfl, ⟨a, rfl, ha⟩, hu', h14, wo, fun D H1 s1 nD hD => ?_⟩
    have jr1 := jr.same s1
    rcases jr1 with ⟨t, n, rfl, ht, e1, all⟩ | ⟨t, p1, p2, j, n1, nj, rfl, ht, k1, k2, j1, jl, e1, ej, ne⟩
    · -- flat
      refine ⟨_, rfl, _, _, .type "tuple", _, true, rfl, .ty "tuple", tyT ht, kit_ty (by decide +kernel), _, rfl, ?_⟩
      refine iteF ?_
      refine ⟨_, rfl, t, _, rfl, .inr ht, rfl, _, rfl, ?_⟩
      refine ite2 (fun _ => ?_) (fun c => absurd rfl c)
      refine ⟨_, rfl, t, _, 0, .str "flat", rfl, rfl, ht, rfl, rfl, _, rfl, ?_⟩
      refine ite2 (fun _ => ?_) (fun c => absurd (by decide) c)
      have ne := fi n e1 all
      generalize hc : n.1.getD 0 0 = c at ht ne
      refine ⟨_, rfl, t, _, 1, .int c, rfl, rfl, ht, rfl, c, rfl, _, rfl, ?_⟩
      refine iteT ?_
      refine ⟨_, rfl, fun p dx np ndx nex => ?_⟩
      have tn : Same H1 (upd (upd H1 dx (.own p)) p (.ins C dx [])) := same_new (same_upd ndx) (by rw [upd_ne (Ne.symm nex)]; exact np)
      refine ⟨p, dx, _, r, rfl, upd_same, ⟨a, rfl, tn.tup (s1.tup ha)⟩, h14, fun H3 hF kp => ⟨rfl, ?_⟩⟩
      have s3 : Same H1 H3 := Same.made np ndx kp
      obtain ⟨dx', ar, po, pla, h1, h2, h3, h4⟩ := id hF
      refine ⟨p, dx', _, rfl, h1, g_noT, _, rfl, t, _, 1, .int c, rfl, rfl, s3.tup ht, rfl, p, c, r, rfl, hF, h14, fun t2 H4 s4 ht2 => ?_⟩
      refine ⟨(by show 2 ≤ sizeLine; decide), fun lp nlp => ?_⟩
      have s5 : Same H4 (upd H4 lp (.tup [.ref t2, .int 1])) := same_upd nlp
      generalize hH5 : upd H4 lp (.tup [.ref t2, .int 1]) = H5 at s5
      have hloud : NumAt K H5 (.ref lp) (whN r c) := ⟨lp, t2, rfl, SqT.of (by rw [← hH5, upd_same]; rfl), s5.tup ht2⟩
      have s15 := (s3.trans s4).trans s5
      have hD5 := hD.same s15
      obtain ⟨vs, gD, nu⟩ := id hD5
      have vsl : (placesL r).length = vs.length := by rw [nu.1, LdL_len]
      refine ⟨_, rfl, D, _, rfl, .of gD, fun q bs nq ik => ?_⟩
      have sq : Same H5 (upd H5 q (.lst (bs.map V.ref))) := same_upd nq
      generalize hH6 : upd H5 q (.lst (bs.map V.ref)) = H6 at sq
      have gq : H6 q = some (.lst (bs.map V.ref)) := by rw [← hH6, upd_same]
      obtain ⟨bl, bg⟩ := keys_get vsl ik
      refine ⟨_, rfl, q, _, rfl, SqL.of gq, fun L nL => ?_⟩
      rw [cut_one]
      have sL := same_new (o := .lst ((bs.map V.ref).drop 1)) sq nL
      generalize hH7 : upd H6 L (.lst ((bs.map V.ref).drop 1)) = H7 at sL
      have gL : H7 L = some (.lst ((bs.map V.ref).drop 1)) := by rw [← hH7, upd_same]
      have hD7 := hD5.same sL
      refine ⟨L, rfl, ⟨_, SqL.of gL⟩, fun M nM => ?_⟩
      refine lc_list (K := K) (a := L) (xs := (bs.map V.ref).drop 1) (fun i H8 => Same H7 H8 ∧ H8 M = some (.lst ((List.replicate i true).map V.bl))) ⟨same_upd nM, upd_same⟩ (fun i H8 _ ⟨s8, _⟩ => SqL.of (s8 _ _ gL)) ?_ ?_
      · rintro i y H8 hi ⟨s8, h8⟩
        rw [List.getElem?_drop, List.getElem?_map] at hi
        obtain ⟨b, hb, rfl⟩ := Option.map_eq_some_iff.mp hi
        have il : 1 + i < (placesL r).length := by rw [← bl]; exact ltL hb
        have h16 := rr_pl0 r h14
        have hxi : (placesL r)[1 + i]? = some (pl r (1 + i)) := (at_pl il).1
        have ki : H8 b = some (.tup ((pl r (1 + i)).map V.int)) := (sL.trans s8) _ _ (bg (1 + i) _ b hxi hb)
        obtain ⟨vi, ni, giv, hni, ei⟩ := (hD7.same s8).get h14 hxi ki
        have eq := all (1 + i) ni (by omega) ei
        rw [eq, ne] at hni
        refine ⟨rfl, _, rfl, _, rfl, D, vi, rfl, giv, _, rfl, numD (whN r c), numD (whN r c), num_dp hni, num_dp ((sL.trans s8).num hloud), num_shaped _, num_shaped _, ?_⟩
        rw [num_eq2 _ _ rfl]
        refine ⟨_, h8, sl_lt (by rw [List.length_map, List.length_replicate]; omega), same_at s8 nM, ?_⟩
        rw [upd_same, List.replicate_succ', List.map_append]
        simp
      · rintro H8 ⟨s8, h8⟩
        refine ⟨M, _, rfl, SqL.of h8, ?_⟩
        rw [all_true]
        exact k H8 (((s1.trans s15).trans sL).trans s8)
    · -- labels
      refine ⟨_, rfl, _, _, .type "tuple", _, true, rfl, .ty "tuple", tyT ht, kit_ty (by decide +kernel), _, rfl, ?_⟩
      refine iteF ?_
      refine ⟨_, rfl, t, _, rfl, .inr ht, rfl, _, rfl, ?_⟩
      refine ite2 (fun c => absurd c (by simp)) (fun _ => ?_)
      refine ite2 (fun c => absurd c (by simp)) (fun _ => ?_)
      refine ⟨_, rfl, t, _, rfl, .inr ht, rfl, _, rfl, ?_⟩
      refine ite2 (fun c => absurd c (by simp)) (fun _ => ?_)
      refine ⟨_, rfl, t, _, 0, .str "labels", rfl, rfl, ht, rfl, rfl, _, rfl, ?_⟩
      refine ite2 (fun c => absurd c (by decide +kernel)) (fun _ => ?_)
      refine ⟨_, rfl, t, _, rfl, ht, rfl, _, _, rfl, _, _, rfl, _, _, rfl, rfl, ?_⟩
      have q1 := at_pl tp
      have qj := at_pl jl
      have P1 : TupI K H1 (.ref p1) (pl r 1) := ⟨p1, rfl, SqT.of k1⟩
      have Pj : TupI K H1 (.ref p2) (pl r j) := ⟨p2, rfl, SqT.of k2⟩
      refine ⟨_, rfl, _, rfl, _, _, r, pl r 1, rfl, ⟨a, rfl, s1.tup ha⟩, P1, h14, q1.2, fun H2 s2 => ⟨_, rfl, ?_⟩⟩
      refine iteF ?_
      refine ⟨_, rfl, _, rfl, _, _, r, pl r j, rfl, ⟨a, rfl, (s1.trans s2).tup ha⟩, s2.tupI Pj, h14, qj.2, fun H3 s3 => ⟨_, rfl, ?_⟩⟩
      refine iteF ?_
      have s23 := s2.trans s3
      have hD3 := hD.same s23
      refine ⟨_, rfl, p1, pl r 1, rfl, (s23.tup (SqT.of k1)), _, rfl, ?_⟩
      rw [pl_some r h14]
      refine iteT ?_
      refine ⟨_, rfl, _, rfl, pl r 1, pl r j, s23.tupI P1, s23.tupI Pj, _, rfl, ?_⟩
      rw [pl_lt1 r h14 j (List.mem_range.mpr jl) j1]
      refine iteT ?_
      obtain ⟨v1, m1, g1v, hm1, f1⟩ := hD3.get h14 q1.1 (s23 _ _ k1)
      obtain ⟨vj, mj, gjv, hmj, fj⟩ := hD3.get h14 qj.1 (s23 _ _ k2)
      rw [e1] at f1
      rw [ej] at fj
      have r1 := Option.some.inj f1
      have rj := Option.some.inj fj
      subst r1 rj
      have c1 := nC _ (List.mem_of_getElem? e1)
      have cj := nC _ (List.mem_of_getElem? ej)
      refine ⟨_, rfl, _, rfl, D, v1, rfl, g1v, _, rfl, _, rfl, D, vj, rfl, gjv, numD n1, numD nj, num_dp hm1, num_dp hmj, num_shaped _, num_shaped _, ?_⟩
      rw [num_eq2 n1 nj (by rw [c1.len, cj.len])]
      have e : (!decide (n1 = nj)) = true := by simp [Ne.symm ne]
      rw [e]
      exact k H3 (s1.trans s23)
end
end K45

/-! Whole rows that may be judged; what judge_flat tells, by the counts; sizes of what is shown. -/
namespace K45
open PySem PySem.Spec PyProof.Rows L2
section
variable {r : List Int}
theorem absI {xs : List Int} (hb : ∀ x ∈ xs, -(2 ^ 40) ≤ x ∧ x ≤ 2 ^ 40) : Abs (2 ^ 40) xs := fun x hx => by
  have := hb x hx
  omega
theorem wh_ok (h : r ∈ RR) {xs : List Int} (hl : xs.length = (placesL r).length) (hb : ∀ x ∈ xs, -(2 ^ 40) ≤ x ∧ x ≤ 2 ^ 40) : WhOk r xs := by
  obtain ⟨A, M⟩ := rof_gd h hl (absI hb)
  have V := rowS_vo h A (by decide)
  have B := abs_vo h (A.lv (by decide) (by decide)) A.c M
  refine ⟨hl, (A.g h (by decide) (by decide)).ok, fun n hn => ⟨(V.g h (by decide) (by decide)).num n hn, fun t ht => ?_⟩⟩
  have := B n hn t ht
  omega
theorem ct_abs2 (h : r ∈ RR) {xs : List Int} (hl : xs.length = (placesL r).length) (hb : ∀ x ∈ xs, -(2 ^ 40) ≤ x ∧ x ≤ 2 ^ 40) : Abs (2 ^ 84) (ctL r xs) := fun x hx => by
  obtain ⟨z, hz, rfl⟩ := List.getElem_of_mem hx
  have e : (ctL r xs)[z] = (ctL r xs).getD z 0 := by rw [List.getD_eq_getElem?_getD, List.getElem?_eq_getElem hz]; rfl
  rw [ctL_len] at hz
  rw [e, ctL_get r _ hz]
  have A := absI hb
  have s : (sm (placesL r).length (fun i => xs.getD i 0 * xs.getD (dS r (pl r i) (pl r z)) 0)).natAbs ≤ (placesL r).length * (2 ^ 40 * 2 ^ 40) := sm_abs fun i _ => by
    rw [Int.natAbs_mul]
    exact Nat.mul_le_mul (A.get i) (A.get _)
  have := Nat.mul_le_mul_right (2 ^ 40 * 2 ^ 40) (rr_pl0 r h)
  exact Nat.le_trans s (Nat.le_trans this (by decide))
theorem ct_row (h : r ∈ RR) {xs : List Int} (hl : xs.length = (placesL r).length) (hb : ∀ x ∈ xs, -(2 ^ 40) ≤ x ∧ x ≤ 2 ^ 40) : RowOk r (rofL r (ctL r xs)) := ((rof_gd h (ctL_len r xs) (ct_abs2 h hl hb)).1.g h (by decide) (by decide)).ok
theorem okd_ld (h : r ∈ RR) {xs : List Int} (hl : xs.length = (placesL r).length) (hb : ∀ x ∈ xs, -(2 ^ 40) ≤ x ∧ x ≤ 2 ^ 40) : ∀ m ∈ LdL r xs, OkD 3 34 (numD m) := fun m hm => by
  rw [LdL_ct h hl] at hm
  obtain ⟨A, M⟩ := rof_gd h (ctL_len r xs) (ct_abs2 h hl hb)
  have V := rowS_vo h A (by decide)
  have B := abs_vo h (A.lv (by decide) (by decide)) A.c M
  have bd := bd_of h V (by decide) (by decide) B (by decide) m hm
  exact okd_num bd.1 bd.2.1 bd.2.2
theorem fl_abs (h : r ∈ RR) {xs : List Int} (hl : xs.length = (placesL r).length) (hb : ∀ x ∈ xs, -(2 ^ 40) ≤ x ∧ x ≤ 2 ^ 40) : (Fl r xs).natAbs ≤ 2 ^ 85 := by
  have A := ct_abs2 h hl hb
  unfold Fl
  have a0 := A.get 0
  have a1 := A.get 1
  omega
theorem okd_flat : OkD 1 4 (.str "flat") := ⟨rfl, by decide +kernel, by decide +kernel, by decide +kernel, rfl⟩
theorem okd_labs : OkD 1 6 (.str "labels") := ⟨rfl, by decide +kernel, by decide +kernel, by decide +kernel, rfl⟩
/-- what is told of a flat row, as data -/
def flD (n : Int) : PyData := .tuple [.str "flat", .int n]
theorem okd_fl {n : Int} (h : n.natAbs < 2 ^ 150) : OkD 2 20 (flD n) := by
  have := okd_tup (dp := 1) (bl := 4) (n := 2) (ds := [.str "flat", .int n]) (fun d hd => by
    rcases List.mem_cons.mp hd with rfl | hd
    · exact okd_flat
    · rw [List.mem_singleton.mp hd]
      exact (okd_int h).le (by decide) (by decide)) (Nat.le_refl 2)
  exact this.le (by decide) (by decide)
theorem okd_lst {dp bl n : Nat} {ds : List PyData} (h : ∀ d ∈ ds, OkD dp bl d) (hn : ds.length ≤ n) : OkD (dp + 1) (n * (bl + 1)) (.list ds) := by
  obtain ⟨h1, h2, h3, h4, h5⟩ := okd_all h
  refine ⟨?_, ?_, ?_, ?_, ?_⟩
  · simpa only [PyData.showable] using h1
  · simpa only [PyData.leavesShort] using h2
  · simp only [PyData.depth]
    omega
  · simp only [PyData.bulk]
    have := Nat.mul_le_mul_right (bl + 1) hn
    omega
  · simpa only [PyData.hasDict] using h5
/-- what judge_flat tells, by the counts -/
theorem jr_kind {K : PySem.W.Frag} {H : Hp} {v : V} (h : r ∈ RR) {xs : List Int} (hl : xs.length = (placesL r).length) (j : JR K H v r xs) :
    (Lev r xs ∧ ∃ t, v = .ref t ∧ SqT K H t [.str "flat", .int (Fl r xs)]) ∨
    (¬ Lev r xs ∧ ∃ t p1 p2 j n1 nj, v = .ref t ∧ SqT K H t [.str "labels", .ref p1, .ref p2] ∧ H p1 = some (.tup ((pl r 1).map V.int)) ∧ H p2 = some (.tup ((pl r j).map V.int)) ∧ 1 < j ∧ j < (placesL r).length ∧ (LdL r xs)[1]? = some n1 ∧ (LdL r xs)[j]? = some nj ∧ nj ≠ n1) := by
  rcases j with ⟨t, n, rfl, ht, e1, all⟩ | ⟨t, p1, p2, j, n1, nj, rfl, ht, k1, k2, j1, jl, e1, ej, ne⟩
  · have lv := flat_lev h hl all
    refine .inl ⟨lv, t, rfl, ?_⟩
    have e := lev_flat h hl lv (Nat.le_refl 1) e1
    have c : n.1.getD 0 0 = Fl r xs := by
      rw [e]
      rfl
    rw [c] at ht
    exact ht
  · refine .inr ⟨fun lv => ne ?_, t, p1, p2, j, n1, nj, rfl, ht, k1, k2, j1, jl, e1, ej, ne⟩
    rw [lev_flat h hl lv (Nat.le_refl 1) e1, lev_flat h hl lv (by omega) ej]
theorem flatI_of (h : r ∈ RR) {xs : List Int} (hl : xs.length = (placesL r).length) : FlatI r xs := fun n e1 all => by
  have e := lev_flat h hl (flat_lev h hl all) (Nat.le_refl 1) e1
  rw [e]
  rfl
/-- what is told, as data, is the same -/
theorem fl_dp {K : PySem.W.Frag} {H : Hp} {t : Addr} {n : Int} (ht : SqT K H t [.str "flat", .int n]) : Dp K H (.ref t) (flD n) := .tup ht (.cons (.str _) (.cons (.int _) .nil))
theorem vo_ld (h : r ∈ RR) {xs : List Int} {l : Nat} (hl : l < (placesL r).length) : (LdL r xs)[l]? = some (loudL (ordL r) (voN1 r (rofL r xs) (pl r l))) := by
  unfold LdL voL
  rw [List.getElem?_map, List.getElem?_map, (at_pl hl).1]
  rfl
theorem vo_ld2 (h : r ∈ RR) {xs : List Int} (hx : xs.length = (placesL r).length) {l : Nat} (hl : l < (placesL r).length) : (LdL r xs)[l]? = some (voN1 r (rofL r (ctL r xs)) (pl r l)) := by
  rw [LdL_ct h hx]
  unfold voL
  rw [List.getElem?_map, (at_pl hl).1]
  rfl
end
end K45

/-! The law's loudness. -/
namespace K45
open PySem PySem.Spec PyProof.Rows L2
theorem ctL_ln (r xs : List Int) : (ctL r xs).length = (placesL r).length := by
  unfold ctL
  rw [List.length_map]
section
variable {P : Program} {w : World} {K : PySem.W.Frag} {mg : Str → Option Value} {base : Heap} {f f1 f2 f3 f4 f5 : Addr} {fd fd1 fd2 fd3 fd4 fd5 : FuncData}
def spLLd (K : PySem.W.Frag) : Sp := fun vs H Q _ => ∃ (W : Wd) (u : V) (r xs : List Int) (at_ : Nat), vs = [.ref W.w, u, .int (at_ : Nat)] ∧ WrAt K H W r ∧ TupI K H u xs ∧ xs.length = (placesL r).length ∧ (∀ x ∈ xs, -(2 ^ 60) ≤ x ∧ x ≤ 2 ^ 60) ∧ at_ < (placesL r).length ∧ RowOk r (rofL r (ctL r xs)) ∧ ∀ v' H', Same H H' → NumAt K H' v' (voN1 r (rofL r (ctL r xs)) (pl r at_)) → Q v' H'
theorem scLLd : FnScope ["world", "whole", "seat"] ["world", "whole", "seat"] (defScope sLLoud) := ⟨rfl, rfl, rfl, by decide +kernel, rfl, by decide +kernel, by decide +kernel⟩
theorem ok_lLd (F : FnP K "_law_loud" sLLoud f fd) (F1 : FnP K "_law_voice" sLVoice f1 fd1) (g1 : mg "_law_voice" = some (.ref f1)) (G1 : FnOk P w K mg base CX0 3 f1 fd1 ["world", "row", "at"] (spLVo K))
    (F2 : FnP K "_law_whole" sLWhole f2 fd2) (g2 : mg "_law_whole" = some (.ref f2)) (G2 : FnOk P w K mg base CX0 3 f2 fd2 ["world", "row"] (spLWh K))
    (F3 : FnP K "_law_counted" sLCounted f3 fd3) (g3 : mg "_law_counted" = some (.ref f3)) (G3 : FnOk P w K mg base CX0 2 f3 fd3 ["world", "whole"] (spLCt K)) : FnOk P w K mg base CX0 4 f fd ["world", "whole", "seat"] (spLLd K) := by
  have b1 : Binds K fd1 ["world", "row", "at"] [] := F1.bindsN fun _ _ _ _ _ _ us hl => match us, hl with | [_, _, _], _ => rfl
  have b2 : Binds K fd2 ["world", "row"] [] := F2.bindsN fun _ _ _ _ _ _ us hl => match us, hl with | [_, _], _ => rfl
  have b3 : Binds K fd3 ["world", "whole"] [] := F3.bindsN fun _ _ _ _ _ _ us hl => match us, hl with | [_, _], _ => rfl
  refine F.ok scLLd (fun vs H Q E h => ?_) (fun cdv A outer s H vs Q E hr h => ?_)
  · obtain ⟨W, u, r, xs, l, rfl, _⟩ := h
    rfl
  · obtain ⟨W, u, r, xs, l, rfl, hW, hu', xl, xb, hl, ro, k⟩ := h
    refine ⟨_, PSs.nox (pss_one (ps_ret (pe_call G1 hr (by rfl) g1 F1.kp b1 .nil pass0 (pa_cons (pv 0) (pa_cons (pe_call G2 hr (by rfl) g2 F2.kp b2 .nil pass0 (pa_cons (pv 0) (pa_cons (pe_call G3 (hr.mono (by decide)) (by rfl) g3 F3.kp b3 .nil pass0 (pa_cons (pv 0) (pa_cons (pv 1) pa_nil))) pa_nil))) (pa_cons (pv 2) pa_nil)))))), ?_⟩
    refine ⟨_, rfl, _, rfl, _, rfl, _, rfl, W, u, r, xs, rfl, hW, hu', xl, xb, fun D H1 s1 nD gD => ?_⟩
    refine ⟨W, D, r, ctL r xs, rfl, s1.wr hW, SqL.of gD, ctL_ln r xs, fun v2 H2 s2 hv2 => ?_⟩
    exact ⟨_, rfl, W, v2, r, rofL r (ctL r xs), l, rfl, (s1.trans s2).wr hW, hv2, ro, hl, fun v3 H3 s3 hv3 => k v3 H3 ((s1.trans s2).trans s3) hv3⟩
end
end K45

/-! number_of. -/
namespace K45
open PySem PySem.Spec PyProof.Rows L2
section
variable {P : Program} {w : World} {K : PySem.W.Frag} {mg : Str → Option Value} {base : Heap} {f f1 f2 f3 f4 f5 f6 : Addr} {fd fd1 fd2 fd3 fd4 fd5 fd6 : FuncData}
def spNumOf (K : PySem.W.Frag) : Sp := fun vs H Q _ => ∃ (e x : Int) (u : V), vs = [.int e, u, .int 1] ∧ e ∈ ER ∧ TupI K H u [x] ∧ ∀ v H', Same H H' → NumAt K H' v (lowL (redL [x] (polyL e)) 1) → Q v H'
theorem scNumOf : FnScope ["order", "items", "bottom"] ["order", "items", "bottom"] (defScope sNumOf) := ⟨rfl, rfl, rfl, by decide +kernel, rfl, by decide +kernel, by decide +kernel⟩
theorem ok_numOf (F : FnP K "number_of" sNumOf f fd) (B : Bl mg) (gI : ∃ t, mg "MOST_ITEMS" = some (.int 60 t))
    (F1 : FnP K "check_order" sChkO f1 fd1) (g1 : mg "check_order" = some (.ref f1)) (G1 : FnOk P w K mg base CX0 3 f1 fd1 ["order"] (spOrd .non))
    (F2 : FnP K "is_integers" sIsInts f2 fd2) (g2 : mg "is_integers" = some (.ref f2)) (G2 : FnOk P w K mg base CX0 2 f2 fd2 ["thing"] (spIsInts K))
    (F3 : FnP K "is_integer" sIsInt f3 fd3) (g3 : mg "is_integer" = some (.ref f3)) (G3 : FnOk P w K mg base CX0 1 f3 fd3 ["thing"] spIsInt)
    (F4 : FnP K "lowered" sLow f4 fd4) (g4 : mg "lowered" = some (.ref f4)) (G4 : FnOk P w K mg base CX0 1 f4 fd4 ["tops", "bottom"] (spLow K))
    (F5 : FnP K "reduced" sRed f5 fd5) (g5 : mg "reduced" = some (.ref f5)) (G5 : FnOk P w K mg base CX0 2 f5 fd5 ["items", "polynomial"] (spRed K))
    (F6 : FnP K "polynomial_of" sPoly f6 fd6) (g6 : mg "polynomial_of" = some (.ref f6)) (G6 : FnOk P w K mg base CX0 2 f6 fd6 ["order"] (spPoly K)) :
    FnOk P w K mg base CX0 4 f fd ["order", "items", "bottom"] (spNumOf K) := by
  have b1 : Binds K fd1 ["order"] [] := F1.bindsN fun _ _ _ _ _ _ us hl => match us, hl with | [_], _ => rfl
  have b2 : Binds K fd2 ["thing"] [] := F2.bindsN fun _ _ _ _ _ _ us hl => match us, hl with | [_], _ => rfl
  have b3 : Binds K fd3 ["thing"] [] := F3.bindsN fun _ _ _ _ _ _ us hl => match us, hl with | [_], _ => rfl
  have b4 : Binds K fd4 ["tops", "bottom"] [] := F4.bindsN fun _ _ _ _ _ _ us hl => match us, hl with | [_, _], _ => rfl
  have b5 : Binds K fd5 ["items", "polynomial"] [] := F5.bindsN fun _ _ _ _ _ _ us hl => match us, hl with | [_, _], _ => rfl
  have b6 : Binds K fd6 ["order"] [] := F6.bindsN fun _ _ _ _ _ _ us hl => match us, hl with | [_], _ => rfl
  obtain ⟨tI, eI⟩ := gI
  refine F.ok scNumOf (fun vs H Q E h => ?_) (fun cdv A outer s H vs Q E hr h => ?_)
  · obtain ⟨e, x, u, rfl, _⟩ := h
    rfl
  · obtain ⟨e, x, u, rfl, he, hu', k⟩ := h
    refine ⟨_, PSs.nox (pss_cons (ps_expr (pe_call G1 (hr.mono (by decide)) (by rfl) g1 F1.kp b1 .nil pass0 (pa_cons (pv 0) pa_nil)))
      (pss_cons (ps_if (PW.pt (pw_or (pt_not (pt_val (pe_call G2 (hr.mono (by decide)) (by rfl) g2 F2.kp b2 .nil pass0 (pa_cons (pv 1) pa_nil)))) (pw_or1 (pt_cmpR op_gt (pe_callB call_len_seq (by rfl) (B "len" (by decide +kernel)) PySem.boot_len (pa_cons (pv 1) pa_nil)) (pe_glob (v := .int 60) (by rfl) eI ⟨_, rfl⟩) (nomark _))))) (pss_one ps_never) pss_nil)
      (pss_cons (ps_if (PW.pt (pw_or (pt_not (pt_val (pe_call G3 (hr.mono (by decide)) (by rfl) g3 F3.kp b3 .nil pass0 (pa_cons (pv 2) pa_nil)))) (pw_or1 (pt_cmpR op_eq (pv 2) pe_int (nomark _))))) (pss_one ps_never) pss_nil)
      (pss_one (ps_ret (pe_call G4 (hr.mono (by decide)) (by rfl) g4 F4.kp b4 .nil pass0 (pa_cons (pe_call G5 (hr.mono (by decide)) (by rfl) g5 F5.kp b5 .nil pass0 (pa_cons (pv 1) (pa_cons (pe_call G6 (hr.mono (by decide)) (by rfl) g6 F6.kp b6 .nil pass0 (pa_cons (pv 0) pa_nil)) pa_nil))) (pa_cons (pv 2) pa_nil)))))))), ?_⟩
    have eb := er_bd e he
    have ep := er_poly e he
    obtain ⟨q, rfl, hq⟩ := id hu'
    refine ⟨_, rfl, e, rfl, by omega, by omega, ?_⟩
    refine ⟨_, rfl, _, [x], rfl, hu', (by show 1 ≤ 100; decide), fun H1 s1 => ⟨_, rfl, ?_⟩⟩
    refine iteF ?_
    refine ⟨_, rfl, q, _, rfl, .inr (s1.tup hq), _, _, rfl, rfl, _, rfl, ?_⟩
    refine ite2 (fun c => absurd c (by simp)) (fun _ => ?_)
    refine ⟨_, rfl, 1, rfl, _, rfl, ?_⟩
    refine iteF ?_
    refine ⟨_, rfl, rfl, _, rfl, ?_⟩
    refine ite2 (fun c => absurd c (by decide)) (fun _ => ?_)
    refine ⟨_, rfl, _, rfl, e, rfl, he, fun t2 H2 s2 nt2 h2 => ?_⟩
    refine ⟨q, t2, [x], polyL e, rfl, .inr ((s1.trans s2).tup hq), SqT.of h2, ep.1, by omega, by show 1 ≤ 100; decide, ep.2.2, fun t3 H3 s3 nt3 h3 => ?_⟩
    have rl : (redL [x] (polyL e)).length = (polyL e).length - 1 := redL_len' (by omega)
    exact ⟨_, rfl, t3, _, 1, rfl, .inr (SqT.of h3), by decide, by decide, by omega, fun v H4 s4 hv => k v H4 (((s1.trans s2).trans s3).trans s4) hv⟩
end
end K45

/-! Defs that show values, called where nothing is being shown. -/
namespace K45
open PySem PySem.Spec PyProof.Rows L2
/-! ### the law's def, where nothing is being shown -/
theorem fn_at {CX : CXT} {P : Program} {w : World} {K : PySem.W.Frag} {mg : Str → Option Value} {base : Heap} {k : Nat} {f : Addr} {name qual : Str} {params : Arguments} {body : List Stmt} {scope : Scope} {fd : FuncData} {N ps : List Str} {sp : Sp} {A : Around} (F : FunD K name qual params body scope [] [] f fd) (S : FnScope N ps scope)
    (len : ∀ vs H Q E, sp vs H Q E → vs.length = ps.length) (hr : Room (k + 1) A)
    (hbody : ∀ (cdv : Value) (outer : List Env) (s : Shared) (H : Hp) (vs : List V) (Q : VK) (E : XK), Room k (A.deeper (envOfC qual scope s.heap.objs.size f cdv)) → sp vs H Q E →
      ∃ t, PSs (cxOf CX P w K mg base N qual scope f cdv A outer s H E) body t ∧ t { nx := fun _ H' => Q .non H', rt := Q } (start N vs) H)
    (outer : List Env) (s : Shared) (H : Hp) (args : Args) (us : List Value) (vs : List V) (Q : VK) (E : XK) (e0 : Env0 P w K mg base A outer s H) (hb : BindsTo s fd args (ps.zip us)) (r : Vals vs us) (hsp : sp vs H Q E) :
    codeAny (model P w) A (.call (.ref f) args) (CR CX outer P w H s Q E) s := by
  obtain ⟨oc, od, dV, kV, doc, pm, an, cdv, ct, osl, rfl, lk, hcd, _, _⟩ := F.ex
  have hl := len _ _ _ _ hsp
  have KX : K.In s.heap := e0.mod.kin.keeps fun b o e => (e0.bs b o e).1
  have lim : s.heap.NoLimit := e0.mod.nolimit.keeps fun b o e => (e0.bs b o e).1
  have hkind : ∀ y ∈ ps.zip us, scope.names.lookup y.1 = some .local ∨ (scope.names.lookup y.1 = some .cell ∧ ((cellsFrom (s.heap.objs.size + 1) scope.names []).lookup y.1).isSome = true) := fun ⟨n, v⟩ hy => by
    rcases S.par n (List.of_mem_zip hy).1 with q | q
    · exact .inl q
    · exact .inr ⟨q, PySem.W.cellsFrom_some _ _ _ (.inl q)⟩
  refine codeAny_call_function hr.depth (KX _ _ lk) rfl S.co S.gen rfl (PySem.W.codeRec_of KX hcd) (hb _ _ _ _ ?_)
  refine wpAny_newFunctionEnv_cells S.kind hkind fun env he s1 x => ?_
  subst he
  refine ⟨lim.keeps x.toInCall.keep, codeAny_func ?_⟩
  obtain ⟨t, ht, hq⟩ := hbody cdv outer s H vs Q E (hr.deeper _) hsp
  have I : Inv (cxOf CX P w K mg base N qual scope f cdv A outer s H E) [] (start N vs) H s1 := inv_start S hr.hd e0 hl r x
  refine wpAny_mono (ht.run [] s1 (start N vs) H _ I hq) (fun fl s' hs => ?_) fun e s' hs => hs
  cases fl with
  | ret u =>
    obtain ⟨v, σ', H', J, rv, q⟩ := hs
    exact ⟨v, H', J.os, J.bare, J.base, J.hok, rv, q⟩
  | next =>
    obtain ⟨σ', H', J, q⟩ := hs
    exact ⟨.non, H', J.os, J.bare, J.base, J.hok, rfl, q⟩
  | brk =>
    obtain ⟨_, _, _, q⟩ := hs
    exact False.elim q
  | cont =>
    obtain ⟨_, _, _, q⟩ := hs
    exact False.elim q
/-- a def's promise where nothing is being shown -/
structure FnOkG (P : Program) (w : World) (K : PySem.W.Frag) (mg : Str → Option Value) (base : Heap) (CX : CXT) (k : Nat) (f : Addr) (fd : FuncData) (ps : List Str) (sp : Sp) : Prop where
  len : ∀ vs H Q E, sp vs H Q E → vs.length = ps.length
  run : ∀ (A : Around) (outer : List Env) (s : Shared) (H : Hp) (args : Args) (us : List Value) (vs : List V) (Q : VK) (E : XK), A.guards = some [] → Room k A → Env0 P w K mg base A outer s H → BindsTo s fd args (ps.zip us) → Vals vs us → sp vs H Q E →
    codeAny (model P w) A (.call (.ref f) args) (CR CX outer P w H s Q E) s
theorem okG {CX : CXT} {P : Program} {w : World} {K : PySem.W.Frag} {mg : Str → Option Value} {base : Heap} {k : Nat} {f : Addr} {name qual : Str} {params : Arguments} {body : List Stmt} {scope : Scope} {fd : FuncData} {N ps : List Str} {sp : Sp} (F : FunD K name qual params body scope [] [] f fd) (S : FnScope N ps scope)
    (len : ∀ vs H Q E, sp vs H Q E → vs.length = ps.length)
    (hbody : ∀ (cdv : Value) (A : Around) (outer : List Env) (s : Shared) (H : Hp) (vs : List V) (Q : VK) (E : XK), A.guards = some [] → Room k (A.deeper (envOfC qual scope s.heap.objs.size f cdv)) → sp vs H Q E →
      ∃ t, PSs (cxOf CX P w K mg base N qual scope f cdv A outer s H E) body t ∧ t { nx := fun _ H' => Q .non H', rt := Q } (start N vs) H) :
    FnOkG P w K mg base CX (k + 1) f fd ps sp :=
  ⟨len, fun A outer s H args us vs Q E hA hr e0 hb r hsp => fn_at F S len hr (fun cdv outer s H vs Q E hr h => hbody cdv A outer s H vs Q E hA hr h) outer s H args us vs Q E e0 hb r hsp⟩
theorem pe_callG {X : Cx} {CX : CXT} {k : Nat} {f : Addr} {fd : FuncData} {ps : List Str} {sp : Sp} {E : XK} {x : Str} {p pos : Pos} {e : Expr} {es : List Expr} {t : TA}
    (F : FnOkG X.prog X.w X.K X.mg X.base CX k f fd ps sp) (hA : X.A.guards = some []) (hr : Room k X.A) (hg : Gl X x) (hm : X.mg x = some (.ref f)) (hk : PySem.W.keepIn X.K (.ref f) = true) (hb : L2.Binds X.K fd ps []) (hx : Passes CX X E) (ha : PA X (e :: es) t)
    (hdb : (x == ("__debug__" : Str)) = false := by decide)
    (he : starEach (e :: es) X.env = (false, eval e X.env) :: starEach es X.env := by rfl) (hpl : (backTo pos (starEach es X.env)).any (·.1) = false := by rfl) :
    PE X (.Call (.Name x p) (e :: es) [] pos) (tCall sp [] E t) := by
  refine ⟨fun pins s σ H Q I h => ?_⟩
  refine wpAny_Call_Name_kw (ld_glob I hg hm (PySem.W.callWith_K I.ok.mod.kin hk (thn (ha.run pos pins s σ H _ I h) fun us s1 ⟨vs, H1, I1, r, q⟩ => ⟨I1.kIn, ?_⟩) he hpl) hdb)
  have r2 : Vals (vs ++ []) (us ++ []) := r.append .nil
  have hl : (us ++ []).length = ps.length := by rw [← r2.length]; exact F.len _ _ _ _ q
  refine wpAny_call (codeAny_mono (F.run X.A X.stack s1 H1 ⟨us, []⟩ (us ++ []) (vs ++ []) Q E hA hr I1.env0 (hb s1 us I1.kIn hl) r2 q) fun rr s' hq => ?_)
  cases rr with
  | error e => exact hx pins σ H1 s1 e s' I1 hq
  | ok fl =>
    cases fl with
    | ret u => exact Inv.after I1 hq
    | next => exact False.elim hq
    | brk => exact False.elim hq
    | cont => exact False.elim hq
end K45

/-! The law's look at what is told. -/
namespace K45
open PySem PySem.Spec PyProof.Rows L2
theorem nums_dp {K : PySem.W.Frag} {H : Hp} : ∀ {vs : List V} {ns : List Num}, Nums K H vs ns → DpAll K H vs (ns.map numD)
  | [], [], _ => .nil
  | [], _ :: _, h => by have := h.1; simp at this
  | _ :: _, [], h => by have := h.1; simp at this
  | v :: vs, n :: ns, h => .cons (num_dp (h.2 0 v n rfl rfl)) (nums_dp (vs := vs) (ns := ns) ⟨by have := h.1; simpa using this, fun i a b e1 e2 => h.2 (i + 1) a b e1 e2⟩)
theorem okd_nl {ns : List Num} (h : ∀ n ∈ ns, OkD 3 34 (numD n)) (hl : ns.length ≤ 2) : OkD 40 50000 (.list (ns.map numD)) := (okd_lst (dp := 3) (bl := 34) (n := 2) (fun d hd => by
  obtain ⟨n, hn, rfl⟩ := List.mem_map.mp hd
  exact h n hn) (by rw [List.length_map]; exact hl)).le (by decide) (by decide)
theorem ints_eq2 (a b : List Int) (h : a.length = b.length) : PyData.eqv (intsD a) (intsD b) = decide (a = b) := by
  simp only [PyData.eqv]
  exact eqv_all a b h
theorem pl_ne0 : ∀ r ∈ RR, ∀ l ∈ List.range (placesL r).length, 1 ≤ l → pl r l ≠ pl r 0 := by decide +kernel
/-- the functions that the look calls -/
structure Fun1 (P : Program) (w : World) (K : PySem.W.Frag) (mg : Str → Option Value) (base : Heap) (x : Str) (st : Stmt) (n : Nat) (ps : List Str) (sp : Sp) where
  a : Addr
  d : FuncData
  F : FnP K x st a d
  g : mg x = some (.ref a)
  G : FnOk P w K mg base CX0 n a d ps sp
  b : L2.Binds K d ps []
structure FsB (P : Program) (w : World) (K : PySem.W.Frag) (mg : Str → Option Value) (base : Heap) where
  f_loudness : Fun1 P w K mg base "loudness" sLoud 6 ["order", "number"] (spLoud K)
  f_voice : Fun1 P w K mg base "voice" sVoice 8 ["rings", "row", "label"] (spVoice K)
  f_row_of : Fun1 P w K mg base "row_of" sRowOf 8 ["rings", "whole"] (spRO K)
  f_number_of : Fun1 P w K mg base "number_of" sNumOf 4 ["order", "items", "bottom"] (spNumOf K)
  f_l_loud : Fun1 P w K mg base "_law_loud" sLLoud 4 ["world", "whole", "seat"] (spLLd K)
  f_l_is_place : Fun1 P w K mg base "_law_is_place" sLIsPl 2 ["rings", "thing"] (spLIsPl K)
abbrev lbN : List Str := ["world", "whole", "told", "flat", "rings", "e", "label", "near", "far"]
theorem scLB : FnScope lbN ["world", "whole", "told", "flat"] (defScope sLRight) := ⟨rfl, rfl, rfl, by decide +kernel, rfl, by decide +kernel, by decide +kernel⟩
abbrev lbB : List Stmt := defBody sLRight
theorem lbB_len : lbB.length = 7 := by kernel_rfl
section
variable {P : Program} {w : World} {K : PySem.W.Frag} {mg : Str → Option Value} {base : Heap} {f : Addr} {cdv : Value} {A : Around} {outer : List Env} {s0 : Shared} {H0 : Hp} {E : XK}
theorem bpart4 (Z : FsB P w K mg base) (B : Bl mg) (hA : A.guards = some []) (hr : Room 8 (A.deeper (envOfC "_law_is_right" (defScope sLRight) s0.heap.objs.size f cdv))) :
    ∃ t, PSs (cxOf CX0 P w K mg base lbN "_law_is_right" (defScope sLRight) f cdv A outer s0 H0 E).nox (lbB.drop 4) t ∧ ∀ (k : Ends) (W : Wd) (u : V) (r xs : List Int) (ta p1 p2 : Addr) (j : Nat) (n1 nj : Num) (x3 x6 x7 x8 : Option V) (H : Hp),
      WrAt K H W r → TupI K H u xs → xs.length = (placesL r).length → (∀ x ∈ xs, -(2 ^ 40) ≤ x ∧ x ≤ 2 ^ 40) → SqT K H ta [.str "labels", .ref p1, .ref p2] → H p1 = some (.tup ((pl r 1).map V.int)) → H p2 = some (.tup ((pl r j).map V.int)) → 1 < j → j < (placesL r).length → (LdL r xs)[1]? = some n1 → (LdL r xs)[j]? = some nj → nj ≠ n1 → (∀ H', Same H H' → k.rt (.bl true) H') →
      t k [some (.ref W.w), some u, some (.ref ta), x3, some (.ref W.R), some (.int (ordL r)), x6, x7, x8] H := by
  have hu := hu_of hr
  have hu64 := hr.units
  have cr : CallR (Cx.nox (cxOf CX0 P w K mg base lbN "_law_is_right" (defScope sLRight) f cdv A outer s0 H0 E)) (.builtin "repr") (rRepr K) := call_repr hA hr.units
  refine ⟨_, (pss_cons (ps_setLc (i := 7) (own := [("label", 6)]) (g := gName 6) (tt := tYes) (te := tCall (spLLd K) [] E0 (tCons (tVar 0) (tCons (tVar 1) (tCons (tDGet (tDGet (tVar 0) (tC (.str "seats"))) (tVar 6)) tNil)))) rfl scLB.nd rfl rfl (sw_true rfl rfl rfl (by decide +kernel)) (pi_tup (pe_slice sl_tupA (pv 2) (po_some pe_int) po_none)) (blkOk_by (own := [("label", 6)]) (N := lbN) (sc := defScope sLRight) (by decide +kernel))
        (fun _ _ _ _ _ => (pg_name (i := 6) scLB.nd rfl (Or.inl rfl))) (fun _ _ _ _ _ => pts_nil) (fun _ _ _ _ _ => (pe_call Z.f_l_loud.G (hr.mono (by decide)) (by rfl) Z.f_l_loud.g Z.f_l_loud.F.kp Z.f_l_loud.b .nil pass0 (pa_cons (pv 0) (pa_cons (pv 1) (pa_cons (pe_dget hu (pe_dget hu (pv 0) pe_str (fun _ _ => rfl)) (pv 6) (fun _ _ => rfl)) pa_nil))))))
      (pss_cons (ps_setLc (i := 8) (own := [("label", 6)]) (g := gName 6) (tt := tYes) (te := tCall (spLoud K) [] E0 (tCons (tVar 5) (tCons (tCall (spVoice K) [] E0 (tCons (tVar 4) (tCons (tCall (spRO K) [] E0 (tCons (tVar 4) (tCons (tVar 1) tNil))) (tCons (tVar 6) tNil)))) tNil))) rfl scLB.nd rfl rfl (sw_true rfl rfl rfl (by decide +kernel)) (pi_tup (pe_slice sl_tupA (pv 2) (po_some pe_int) po_none)) (blkOk_by (own := [("label", 6)]) (N := lbN) (sc := defScope sLRight) (by decide +kernel))
        (fun _ _ _ _ _ => (pg_name (i := 6) scLB.nd rfl (Or.inl rfl))) (fun _ _ _ _ _ => pts_nil) (fun _ _ _ _ _ => (pe_call Z.f_loudness.G (hr.mono (by decide)) (by rfl) Z.f_loudness.g Z.f_loudness.F.kp Z.f_loudness.b .nil pass0 (pa_cons (pv 5) (pa_cons (pe_call Z.f_voice.G hr (by rfl) Z.f_voice.g Z.f_voice.F.kp Z.f_voice.b .nil pass0 (pa_cons (pv 4) (pa_cons (pe_call Z.f_row_of.G hr (by rfl) Z.f_row_of.g Z.f_row_of.F.kp Z.f_row_of.b .nil pass0 (pa_cons (pv 4) (pa_cons (pv 1) pa_nil))) (pa_cons (pv 6) pa_nil)))) pa_nil)))))
      (pss_one (ps_ret (pe_and (pe_cmpR (op_neD hu64) (pe_ix ix_list (pv 7) pe_int (fun _ _ => rfl)) (pe_ix ix_list (pv 7) pe_int (fun _ _ => rfl)) (nomark _)) (pe_one (pe_cmpR op_eq (pe_callB cr (by rfl) (B "repr" (by decide +kernel)) (by decide +kernel) (pa_cons (pv 7) pa_nil)) (pe_callB cr (by rfl) (B "repr" (by decide +kernel)) (by decide +kernel) (pa_cons (pv 8) pa_nil)) (nomark _)))))))), ?_⟩
  intro k W u r xs ta p1 p2 j n1 nj x3 x6 x7 x8 H hW hu' xl xb ht k1 k2 j1 jl e1 ej ne q
  have h14 := hW.rr
  have he := er_in r h14
  have h16 := rr_pl0 r h14
  have tp := two_pos r h14
  have nd := rr_nd r h14
  have wo := wh_ok h14 xl xb
  have okL := okd_ld h14 xl xb
  have xb60 : ∀ x ∈ xs, -(2 ^ 60) ≤ x ∧ x ≤ 2 ^ 60 := fun x hx => by have := xb x hx; omega
  -- the labels, one after the other
  have lab : ∀ (i : Nat) (y : V), ([V.ref p1, .ref p2] : List V)[i]? = some y → ∃ (l : Nat) (pq : Addr) (n : Num), y = .ref pq ∧ H pq = some (.tup ((pl r l).map V.int)) ∧ l < (placesL r).length ∧ (LdL r xs)[l]? = some n ∧ ([n1, nj] : List Num)[i]? = some n := fun i y hy => by
    match i, hy with
    | 0, hy => exact ⟨1, p1, n1, (Option.some.inj hy).symm, k1, tp, e1, rfl⟩
    | 1, hy => exact ⟨j, p2, nj, (Option.some.inj hy).symm, k2, jl, ej, rfl⟩
    | i + 2, hy => simp at hy
  have dgt : ∀ {l : Nat} {pq : Addr} {H1 : Hp}, l < (placesL r).length → WrAt K H1 W r → H1 pq = some (.tup ((pl r l).map V.int)) → DGet H1 W.S (.ref pq) (some (.int (l : Nat))) := fun {l pq H1} ll hw hp => by
    have hv : valV (tabK (placesL r) (upI (placesL r).length)) (kT (pl r l)) = some (V.int (l : Nat)) := tabK_val nd (at_pl ll).1 (by
      unfold upI
      rw [List.getElem?_map, List.getElem?_range ll]
      rfl)
    rw [← hv]
    exact DGet.t (k := kT (pl r l)) hw.S (by rw [kT_V]; exact hp)
  -- near
  refine seq_asg ?_
  refine ⟨_, rfl, _, rfl, ta, _, rfl, ht, (fun c => absurd (show HT.sIx 3 0 (some (1 : Int)) = 0 from c.1) (by decide)), fun _ c np => ?_⟩
  rw [cut_one, show ([V.str "labels", .ref p1, .ref p2] : List V).drop 1 = [.ref p1, .ref p2] from rfl]
  have sc : Same H (upd H c (.tup [.ref p1, .ref p2])) := same_upd np
  refine ⟨c, rfl, ⟨_, SqT.of upd_same⟩, ?_⟩
  have gc : upd H c (.tup [.ref p1, .ref p2]) c = some (.tup [.ref p1, .ref p2]) := upd_same
  show ∀ D, upd H c (.tup [.ref p1, .ref p2]) D = none → _
  generalize upd H c (.tup [.ref p1, .ref p2]) = H1 at sc gc
  intro L nL
  refine lc_tup (K := K) (a := c) (xs := [.ref p1, .ref p2]) (fun i H2 => Same H1 H2 ∧ ∃ vs, H2 L = some (.lst vs) ∧ Nums K H2 vs (([n1, nj] : List Num).take i)) ⟨same_upd nL, [], upd_same, by rw [List.take_zero]; exact nums_nil⟩ (fun i H2 _ ⟨s2, _⟩ => SqT.of (s2 _ _ gc)) ?_ ?_
  · rintro i y H2 hi ⟨s2, vs, g2, nu2⟩
    obtain ⟨l, pq, n, rfl, hpq, ll, el, en⟩ := lab i y hi
    have s02 := sc.trans s2
    have hW2 := s02.wr hW
    have il := ltL en
    have ev : n = voN1 r (rofL r (ctL r xs)) (pl r l) := by
      rw [vo_ld2 h14 xl ll] at el
      exact (Option.some.inj el).symm
    refine ⟨rfl, _, rfl, _, rfl, _, rfl, W.w, _, rfl, hW2.gS, _, rfl, W.S, _, rfl, dgt ll hW2 (s02 _ _ hpq), W, u, r, xs, l, rfl, hW2, s02.tupI hu', xl, xb60, ll, ct_row h14 xl xb, fun v3 H3 s3 hv3 => ?_⟩
    rw [← ev] at hv3
    have g3 := s3 _ _ g2
    have vl := nu2.1
    rw [List.length_take] at vl
    refine ⟨vs, g3, sl_lt (by simp at vl il; omega), same_at (s2.trans s3) nL, vs ++ [v3], upd_same, ?_⟩
    rw [takeS en]
    exact Nums.snoc (nums_at (s3.nums nu2) g3) (num_at hv3 g3)
  rintro H2 ⟨s2, vs, gL, nu⟩
  have s02 := sc.trans s2
  refine set_ok ?_
  -- far
  refine seq_asg ?_
  refine ⟨_, rfl, _, rfl, ta, _, rfl, s02.tup ht, (fun c => absurd (show HT.sIx 3 0 (some (1 : Int)) = 0 from c.1) (by decide)), fun _ c' np' => ?_⟩
  rw [cut_one, show ([V.str "labels", .ref p1, .ref p2] : List V).drop 1 = [.ref p1, .ref p2] from rfl]
  have sc' : Same H2 (upd H2 c' (.tup [.ref p1, .ref p2])) := same_upd np'
  refine ⟨c', rfl, ⟨_, SqT.of upd_same⟩, ?_⟩
  have gc' : upd H2 c' (.tup [.ref p1, .ref p2]) c' = some (.tup [.ref p1, .ref p2]) := upd_same
  show ∀ D, upd H2 c' (.tup [.ref p1, .ref p2]) D = none → _
  generalize upd H2 c' (.tup [.ref p1, .ref p2]) = H3 at sc' gc'
  intro L' nL'
  refine lc_tup (K := K) (a := c') (xs := [.ref p1, .ref p2]) (fun i H4 => Same H3 H4 ∧ ∃ vs, H4 L' = some (.lst vs) ∧ Nums K H4 vs (([n1, nj] : List Num).take i)) ⟨same_upd nL', [], upd_same, by rw [List.take_zero]; exact nums_nil⟩ (fun i H4 _ ⟨s4, _⟩ => SqT.of (s4 _ _ gc')) ?_ ?_
  · rintro i y H4 hi ⟨s4, vs', g4, nu4⟩
    obtain ⟨l, pq, n, rfl, hpq, ll, el, en⟩ := lab i y hi
    have s04 := (s02.trans sc').trans s4
    have hW4 := s04.wr hW
    have il := ltL en
    have ev : n = loudL (ordL r) (voN1 r (rofL r xs) (pl r l)) := by
      rw [vo_ld h14 ll] at el
      exact (Option.some.inj el).symm
    have mem : voN1 r (rofL r xs) (pl r l) ∈ voL r (rofL r xs) := by
      unfold voL
      exact List.mem_map.mpr ⟨pl r l, (at_pl ll).2, rfl⟩
    have nm := wo.num _ mem
    have rg : RowG r (rofL r xs) := (rof_gd h14 xl (absI xb)).1.g h14 (by decide) (by decide)
    refine ⟨rfl, _, rfl, _, rfl, _, rfl, _, rfl, _, _, r, xs, rfl, ⟨W.R, rfl, hW4.R⟩, s04.tupI hu', h14, xl, fun v5 H5 s5 hv5 => ?_⟩
    have s05 := s04.trans s5
    refine ⟨_, rfl, _, v5, _, r, rofL r xs, pl r l, rfl, ⟨W.R, rfl, s05.tup hW.R⟩, hv5, ⟨pq, rfl, SqT.of (s05 _ _ hpq)⟩, h14, rg, (at_pl ll).2, fun v6 H6 s6 hv6 => ?_⟩
    refine ⟨ordL r, v6, _, rfl, he, hv6, nm.1, nm.2, fun v7 H7 s7 hv7 => ?_⟩
    rw [← ev] at hv7
    have s47 := (s5.trans s6).trans s7
    have g7 := s47 _ _ g4
    have vl := nu4.1
    rw [List.length_take] at vl
    refine ⟨vs', g7, sl_lt (by simp at vl il; omega), same_at (s4.trans s47) nL', vs' ++ [v7], upd_same, ?_⟩
    rw [takeS en]
    exact Nums.snoc (nums_at (s47.nums nu4) g7) (num_at hv7 g7)
  rintro H4 ⟨s4, vs', gL', nu'⟩
  have s24 := sc'.trans s4
  have gL4 := s24 _ _ gL
  have nu4 : Nums K H4 vs [n1, nj] := s24.nums nu
  have nu5 : Nums K H4 vs' [n1, nj] := nu'
  have m1 := List.mem_of_getElem? e1
  have mj := List.mem_of_getElem? ej
  have nC := Ld_num h14 xl
  have okN : OkD 40 50000 (.list (([n1, nj] : List Num).map numD)) := okd_nl (fun n hn => by
    rcases List.mem_cons.mp hn with rfl | hn
    · exact okL _ m1
    · rw [List.mem_singleton.mp hn]
      exact okL _ mj) (Nat.le_refl 2)
  have d1 : Dp K H4 (.ref L) (.list (([n1, nj] : List Num).map numD)) := .lst (SqL.of gL4) (nums_dp nu4)
  have d2 : Dp K H4 (.ref L') (.list (([n1, nj] : List Num).map numD)) := .lst (SqL.of gL') (nums_dp nu5)
  refine set_ok ?_
  obtain ⟨v0, v1, rfl⟩ : ∃ v0 v1, vs = [v0, v1] := by
    match vs, nu4.1 with
    | [a, b], _ => exact ⟨a, b, rfl⟩
  refine ⟨_, rfl, L, _, _, v0, rfl, rfl, SqL.of gL4, rfl, _, rfl, L, _, _, v1, rfl, rfl, SqL.of gL4, rfl, numD n1, numD nj, num_dp (nu4.2 0 v0 n1 rfl rfl), num_dp (nu4.2 1 v1 nj rfl rfl), num_shaped _, num_shaped _, _, rfl, ?_⟩
  rw [num_eq2 n1 nj (by rw [(nC _ m1).len, (nC _ mj).len])]
  have e : (!decide (n1 = nj)) = true := by simp [Ne.symm ne]
  rw [e]
  refine iteT ?_
  refine cb1_ok ?_
  refine ⟨_, rfl, ?_⟩
  refine rep_ok d1 okN ?_
  refine cb1_ok ?_
  refine ⟨_, rfl, ?_⟩
  refine rep_ok d2 okN ?_
  refine eq_same ?_
  exact q H4 (s02.trans s24)
theorem bpart2 (Z : FsB P w K mg base) (B : Bl mg) (hA : A.guards = some []) (hr : Room 8 (A.deeper (envOfC "_law_is_right" (defScope sLRight) s0.heap.objs.size f cdv))) :
    ∃ t, PSs (cxOf CX0 P w K mg base lbN "_law_is_right" (defScope sLRight) f cdv A outer s0 H0 E).nox (lbB.drop 2) t ∧ ∀ (k : Ends) (W : Wd) (u : V) (r xs : List Int) (ta p1 p2 : Addr) (j : Nat) (n1 nj : Num) (x3 x6 x7 x8 : Option V) (H : Hp),
      WrAt K H W r → TupI K H u xs → xs.length = (placesL r).length → (∀ x ∈ xs, -(2 ^ 40) ≤ x ∧ x ≤ 2 ^ 40) → SqT K H ta [.str "labels", .ref p1, .ref p2] → H p1 = some (.tup ((pl r 1).map V.int)) → H p2 = some (.tup ((pl r j).map V.int)) → 1 < j → j < (placesL r).length → (LdL r xs)[1]? = some n1 → (LdL r xs)[j]? = some nj → nj ≠ n1 → (∀ H', Same H H' → k.rt (.bl true) H') →
      t k [some (.ref W.w), some u, some (.ref ta), x3, some (.ref W.R), some (.int (ordL r)), x6, x7, x8] H := by
  have hu := hu_of hr
  have hu64 := hr.units
  obtain ⟨t4, p4, q4⟩ := bpart4 (P := P) (w := w) (K := K) (mg := mg) (base := base) (f := f) (cdv := cdv) (A := A) (outer := outer) (s0 := s0) (H0 := H0) (E := E) Z B hA hr
  refine ⟨_, (pss_cons (ps_if (PW.pt (pw_or (pt_not (pt_val (pe_callB call_isi (by rfl) (B "isinstance" (by decide +kernel)) (by decide +kernel) (pa_cons (pv 2) (pa_cons (pe_bltn (v := .ty "tuple") (by rfl) (B "tuple" (by decide +kernel)) (by decide +kernel) rfl) pa_nil))))) (pw_or (pt_cmpR op_ne (pe_callB call_len_seq (by rfl) (B "len" (by decide +kernel)) PySem.boot_len (pa_cons (pv 2) pa_nil)) pe_int (nomark _)) (pw_or1 (pt_cmpR op_ne (pe_ix ix_tup (pv 2) pe_int (fun _ _ => rfl)) pe_str (nomark _)))))) (pss_one (ps_ret pe_bl)) pss_nil)
      (pss_cons (ps_if (PW.pt (pw_or (pt_cmpR (op_neD hu64) (pe_lc (own := [("label", 6)]) (g := gName 6) (tt := tOr (tNot (tTest (tCall (spLIsPl K) [] E0 (tCons (tVar 4) (tCons (tVar 6) tNil))))) (tTest (tOp (rEqD K) (tVar 6) (tOp (rIxL K) (tDGet (tVar 0) (tC (.str "places"))) (tC (.int 0)))))) (te := tC (.int 1)) rfl scLB.nd (pi_tup (pe_slice sl_tupA (pv 2) (po_some pe_int) po_none)) (blkOk_by (own := [("label", 6)]) (N := lbN) (sc := defScope sLRight) (by decide +kernel))
        (fun _ _ _ _ _ => (pg_name (i := 6) scLB.nd rfl (Or.inl rfl))) (fun _ _ _ _ _ => pts_one (PW.pt (pw_or (pt_not (pt_val (pe_call Z.f_l_is_place.G (hr.mono (by decide)) (by rfl) Z.f_l_is_place.g Z.f_l_is_place.F.kp Z.f_l_is_place.b .nil pass0 (pa_cons (pv 4) (pa_cons (pv 6) pa_nil))))) (pw_or1 (pt_cmpR (op_eqD hu64) (pv 6) (pe_ix ix_list (pe_dget hu (pv 0) pe_str (fun _ _ => rfl)) pe_int (fun _ _ => rfl)) (nomark _)))))) (fun _ _ _ _ _ => pe_int)) (pe_lst pa_nil) (nomark _)) (pw_or1 (pt_cmpR (op_geI hu64) (pe_ix ix_tup (pv 2) pe_int (fun _ _ => rfl)) (pe_ix ix_tup (pv 2) pe_int (fun _ _ => rfl)) (nomark _))))) (pss_one (ps_ret pe_bl)) pss_nil)
      p4)), ?_⟩
  intro k W u r xs ta p1 p2 j n1 nj x3 x6 x7 x8 H hW hu' xl xb ht k1 k2 j1 jl e1 ej ne q
  have h14 := hW.rr
  have h16 := rr_pl0 r h14
  have tp := two_pos r h14
  have lab : ∀ (i : Nat) (y : V), ([V.ref p1, .ref p2] : List V)[i]? = some y → ∃ (l : Nat) (pq : Addr), y = .ref pq ∧ H pq = some (.tup ((pl r l).map V.int)) ∧ l < (placesL r).length ∧ 1 ≤ l := fun i y hy => by
    match i, hy with
    | 0, hy => exact ⟨1, p1, (Option.some.inj hy).symm, k1, tp, Nat.le_refl 1⟩
    | 1, hy => exact ⟨j, p2, (Option.some.inj hy).symm, k2, jl, by omega⟩
    | i + 2, hy => simp at hy
  refine ⟨_, rfl, _, _, .type "tuple", _, true, rfl, .ty "tuple", tyT ht, kit_ty (by decide +kernel), _, rfl, ?_⟩
  refine iteF ?_
  refine ⟨_, rfl, ta, _, rfl, .inr ht, rfl, _, rfl, ?_⟩
  refine ite2 (fun c => absurd c (by simp)) (fun _ => ?_)
  refine ⟨_, rfl, ta, _, 0, .str "labels", rfl, rfl, ht, rfl, rfl, _, rfl, ?_⟩
  refine ite2 (fun c => absurd c (by decide +kernel)) (fun _ => ?_)
  -- the labels are places other than the origin
  refine ⟨_, rfl, _, rfl, ta, _, rfl, ht, (fun c => absurd (show HT.sIx 3 0 (some (1 : Int)) = 0 from c.1) (by decide)), fun _ c np => ?_⟩
  rw [cut_one, show ([V.str "labels", .ref p1, .ref p2] : List V).drop 1 = [.ref p1, .ref p2] from rfl]
  have sc : Same H (upd H c (.tup [.ref p1, .ref p2])) := same_upd np
  refine ⟨c, rfl, ⟨_, SqT.of upd_same⟩, ?_⟩
  have gc : upd H c (.tup [.ref p1, .ref p2]) c = some (.tup [.ref p1, .ref p2]) := upd_same
  show ∀ D, upd H c (.tup [.ref p1, .ref p2]) D = none → _
  generalize upd H c (.tup [.ref p1, .ref p2]) = H1 at sc gc
  intro L nL
  refine lc_tup (K := K) (a := c) (xs := [.ref p1, .ref p2]) (fun i H2 => Same H1 H2 ∧ H2 L = some (.lst [])) ⟨same_upd nL, upd_same⟩ (fun i H2 _ ⟨s2, _⟩ => SqT.of (s2 _ _ gc)) ?_ ?_
  · rintro i y H2 hi ⟨s2, g2⟩
    obtain ⟨l, pq, rfl, hpq, ll, l1⟩ := lab i y hi
    have s02 := sc.trans s2
    have hW2 := s02.wr hW
    refine ⟨rfl, _, rfl, _, rfl, _, _, r, pl r l, rfl, ⟨W.R, rfl, hW2.R⟩, ⟨pq, rfl, SqT.of (s02 _ _ hpq)⟩, h14, (at_pl ll).2, fun H3 s3 => ⟨_, rfl, ?_⟩⟩
    refine iteF ?_
    have s03 := s02.trans s3
    have hW3 := s03.wr hW
    obtain ⟨kp, q1, q2, q3⟩ := id hW3.P
    obtain ⟨k0, hk0⟩ : ∃ k0, kp[0]? = some k0 := ⟨_, List.getElem?_eq_getElem (by
      have := congrArg List.length q2
      rw [List.length_map] at this
      omega)⟩
    have ek0 : k0.2 = pl r 0 := by
      have e : (placesL r)[0]? = some k0.2 := by rw [← q2, List.getElem?_map, hk0]; rfl
      rw [(at_pl (show 0 < (placesL r).length by omega)).1] at e
      exact (Option.some.inj e).symm
    have a0 : atI (rf kp) (0 : Int) = some (.ref k0.1) := atI_nat (j := 0) (by rw [List.getElem?_map, hk0]; rfl)
    refine ⟨_, rfl, _, rfl, W.w, _, rfl, hW3.gP, W.P, _, _, .ref k0.1, rfl, rfl, SqL.of q1, a0, intsD (pl r l), intsD k0.2, .tup (SqT.of (s03 _ _ hpq)) (dp_ints _), .tup (q3 k0 (List.mem_of_getElem? hk0)) (dp_ints _), ints_shaped _, ints_shaped _, _, rfl, ?_⟩
    rw [ek0, ints_eq2 _ _ (by rw [rr_whole h14 (at_pl ll).2, rr_whole h14 (at_pl (show 0 < (placesL r).length by omega)).2]), decide_eq_false (pl_ne0 r h14 l (List.mem_range.mpr ll) l1)]
    exact ⟨s2.trans s3, s3 _ _ g2⟩
  rintro H2 ⟨s2, g2⟩
  have s02 := sc.trans s2
  refine ⟨by decide, fun L2 nL2 => ?_⟩
  have sL : Same H2 (upd H2 L2 (.lst [])) := same_upd nL2
  refine ⟨.list [], .list [], .lst (SqL.of (sL _ _ g2)) .nil, .lst (SqL.of upd_same) .nil, by decide, by decide, _, rfl, ?_⟩
  refine iteF ?_
  have s03 := s02.trans sL
  have ht3 := s03.tup ht
  refine ⟨_, rfl, ta, _, 1, .ref p1, rfl, rfl, ht3, rfl, _, rfl, ta, _, 2, .ref p2, rfl, rfl, ht3, rfl, pl r 1, pl r j, ⟨p1, rfl, SqT.of (s03 _ _ k1)⟩, ⟨p2, rfl, SqT.of (s03 _ _ k2)⟩, _, rfl, ?_⟩
  rw [pl_lt1 r h14 j (List.mem_range.mpr jl) j1]
  refine iteF ?_
  exact q4 k W u r xs ta p1 p2 j n1 nj _ _ _ _ _ (s03.wr hW) (s03.tupI hu') xl xb ht3 (s03 _ _ k1) (s03 _ _ k2) j1 jl e1 ej ne (fun H' s' => q H' (s03.trans s'))
end
section
variable {P : Program} {w : World} {K : PySem.W.Frag} {mg : Str → Option Value} {base : Heap} {f : Addr} {fd : FuncData}
def spLRt (K : PySem.W.Frag) : Sp := fun vs H Q _ => ∃ (W : Wd) (u told fl : V) (r xs : List Int), vs = [.ref W.w, u, told, fl] ∧ WrAt K H W r ∧ TupI K H u xs ∧ xs.length = (placesL r).length ∧ (∀ x ∈ xs, -(2 ^ 40) ≤ x ∧ x ≤ 2 ^ 40) ∧ JR K H told r xs ∧ ((Lev r xs ∧ fl = .int (Fl r xs)) ∨ (¬ Lev r xs ∧ fl = .non)) ∧ ∀ H', Same H H' → Q (.bl true) H'
theorem ok_lRt (F : FnP K "_law_is_right" sLRight f fd) (B : Bl mg) (Z : FsB P w K mg base) : FnOkG P w K mg base CX0 9 f fd ["world", "whole", "told", "flat"] (spLRt K) := by
  refine okG F scLB (fun vs H Q E h => ?_) (fun cdv A outer s H vs Q E hA hr h => ?_)
  · obtain ⟨W, u, told, fl, r, xs, rfl, _⟩ := h
    rfl
  · obtain ⟨W, u, told, fl, r, xs, rfl, hW, hu', xl, xb, jr, hfl, q⟩ := h
    have hu := hu_of hr
    have hu64 := hr.units
    have cr : CallR (Cx.nox (cxOf CX0 P w K mg base lbN "_law_is_right" (defScope sLRight) f cdv A outer s H E)) (.builtin "repr") (rRepr K) := call_repr hA hr.units
    obtain ⟨t2, p2, q2⟩ := bpart2 (P := P) (w := w) (K := K) (mg := mg) (base := base) (f := f) (cdv := cdv) (A := A) (outer := outer) (s0 := s) (H0 := H) (E := E) Z B hA hr
    refine ⟨_, PSs.nox (pss_cons (ps_asg (pe_tup (pa_cons (pe_dget hu (pv 0) pe_str (fun _ _ => rfl)) (pa_cons (pe_dget hu (pv 0) pe_str (fun _ _ => rfl)) pa_nil))) (pg_tup rfl (pgs_cons (pg_name (i := 4) scLB.nd rfl (Or.inr rfl)) (pgs_cons (pg_name (i := 5) scLB.nd rfl (Or.inr rfl)) pgs_nil))))
      (pss_cons (ps_if (pt_cmpR op_notN (pv 3) pe_non (nomark _)) (pss_cons (ps_if (pt_cmpR op_ne (pe_callB cr (by rfl) (B "repr" (by decide +kernel)) (by decide +kernel) (pa_cons (pv 2) pa_nil)) (pe_callB cr (by rfl) (B "repr" (by decide +kernel)) (by decide +kernel) (pa_cons (pe_tup (pa_cons pe_str (pa_cons (pv 3) pa_nil))) pa_nil)) (nomark _)) (pss_one (ps_ret pe_bl)) pss_nil)
      (pss_cons (ps_for PassesOwn.never rfl (pi_list (pe_slice sl_list (pe_dget hu (pv 0) pe_str (fun _ _ => rfl)) (po_some pe_int) po_none)) (pg_name (i := 6) scLB.nd rfl (Or.inl rfl)) (pss_one (ps_if (pt_cmpR op_ne (pe_callB cr (by rfl) (B "repr" (by decide +kernel)) (by decide +kernel) (pa_cons (pe_call Z.f_loudness.G (hr.mono (by decide)) (by rfl) Z.f_loudness.g Z.f_loudness.F.kp Z.f_loudness.b .nil pass0 (pa_cons (pv 5) (pa_cons (pe_call Z.f_voice.G hr (by rfl) Z.f_voice.g Z.f_voice.F.kp Z.f_voice.b .nil pass0 (pa_cons (pv 4) (pa_cons (pe_call Z.f_row_of.G hr (by rfl) Z.f_row_of.g Z.f_row_of.F.kp Z.f_row_of.b .nil pass0 (pa_cons (pv 4) (pa_cons (pv 1) pa_nil))) (pa_cons (pv 6) pa_nil)))) pa_nil))) pa_nil)) (pe_callB cr (by rfl) (B "repr" (by decide +kernel)) (by decide +kernel) (pa_cons (pe_call Z.f_number_of.G (hr.mono (by decide)) (by rfl) Z.f_number_of.g Z.f_number_of.F.kp Z.f_number_of.b .nil pass0 (pa_cons (pv 5) (pa_cons (pe_tup (pa_cons (pv 3) pa_nil)) (pa_cons pe_int pa_nil)))) pa_nil)) (nomark _)) (pss_one (ps_ret pe_bl)) pss_nil)))
      (pss_one (ps_ret pe_bl)))) pss_nil)
      p2)), ?_⟩
    have h14 := hW.rr
    have he := er_in r h14
    have h16 := rr_pl0 r h14
    have wo := wh_ok h14 xl xb
    refine seq_asg ?_
    refine ⟨_, rfl, W.w, _, rfl, hW.gR, _, rfl, W.w, _, rfl, hW.gO, (by show 2 ≤ sizeLine; decide), fun t0 nt0 => ?_⟩
    have s0 : Same H (upd H t0 (.tup [.ref W.R, .int (ordL r)])) := same_upd nt0
    refine ⟨t0, _, rfl, SqT.of upd_same, rfl, _, _, rfl, _, _, rfl, rfl, ?_⟩
    generalize upd H t0 (.tup [.ref W.R, .int (ordL r)]) = H1 at s0
    have hW1 := s0.wr hW
    rcases jr_kind h14 xl (jr.same s0) with ⟨lv, ta, rfl, ht⟩ | ⟨nlv, ta, p1, p2', j, n1, nj, rfl, ht, k1, k2, j1, jl, e1, ej, ne⟩
    · obtain rfl : fl = .int (Fl r xs) := by
        rcases hfl with ⟨_, e⟩ | ⟨n, _⟩
        · exact e
        · exact absurd lv n
      have fa : (Fl r xs).natAbs < 2 ^ 150 := Nat.lt_of_le_of_lt (fl_abs h14 xl xb) (by decide)
      refine ⟨_, rfl, rfl, _, rfl, ?_⟩
      refine ite2 (fun _ => ?_) (fun c => absurd (by
        have n : V.int (Fl r xs) ≠ V.non := fun z => by cases z
        simp [n]) c)
      have okF : OkD 40 50000 (flD (Fl r xs)) := (okd_fl fa).le (by decide) (by decide)
      -- told
      refine cb1_ok ?_
      refine ⟨_, rfl, ?_⟩
      refine rep_ok (fl_dp ht) okF ?_
      refine cb1_ok ?_
      refine ⟨_, rfl, (by show 2 ≤ sizeLine; decide), fun t1 nt1 => ?_⟩
      have s1 : Same H1 (upd H1 t1 (.tup [.str "flat", .int (Fl r xs)])) := same_upd nt1
      refine rep_ok (fl_dp (SqT.of upd_same)) okF ?_
      refine ne_same ?_
      refine ite2 (fun c => absurd c (by decide)) fun _ => ?_
      generalize upd H1 t1 (.tup [.str "flat", .int (Fl r xs)]) = H2 at s1
      have s02 := s0.trans s1
      have hW2 := s02.wr hW
      obtain ⟨kp, q1', q2', q3'⟩ := id hW2.P
      have kl : kp.length = (placesL r).length := by rw [← q2', List.length_map]
      refine ⟨_, rfl, W.w, _, rfl, hW2.gP, _, rfl, W.P, _, rfl, SqL.of q1', fun L nL => ?_⟩
      rw [cut_one]
      have sL : Same H2 (upd H2 L (.lst ((rf kp).drop 1))) := same_upd nL
      generalize hH3 : upd H2 L (.lst ((rf kp).drop 1)) = H3 at sL
      have gL : H3 L = some (.lst ((rf kp).drop 1)) := by rw [← hH3, upd_same]
      have s03 := s02.trans sL
      refine ⟨L, rfl, ⟨_, SqL.of gL⟩, for_list (K := K) (a := L) (xs := (rf kp).drop 1) (fun i σ H4 => ∃ u6, σ = [some (.ref W.w), some u, some (.ref ta), some (.int (Fl r xs)), some (.ref W.R), some (.int (ordL r)), u6, none, none] ∧ Same H3 H4) ⟨none, rfl, Same.refl _⟩ (fun i σ H4 _ ⟨_, _, s4⟩ => SqL.of (s4 _ _ gL)) ?_ ?_⟩
      · rintro i y σ H4 hi ⟨u6, rfl, s4⟩
        rw [List.getElem?_drop] at hi
        obtain ⟨kq, rfl, hkq⟩ := getR hi
        have hq2 : (placesL r)[1 + i]? = some kq.2 := by rw [← q2', List.getElem?_map, hkq]; rfl
        have ll := ltL hq2
        have epl : kq.2 = pl r (1 + i) := by
          rw [(at_pl ll).1] at hq2
          exact (Option.some.inj hq2).symm
        have s04 := s03.trans s4
        have hW4 := s04.wr hW
        obtain ⟨m, hm⟩ := get_lt (show 1 + i < (LdL r xs).length by rw [LdL_len]; exact ll)
        have em := lev_flat h14 xl lv (show 1 ≤ 1 + i by omega) hm
        have el := vo_ld (r := r) h14 (xs := xs) ll
        rw [hm] at el
        have el := Option.some.inj el
        have mem : voN1 r (rofL r xs) (pl r (1 + i)) ∈ voL r (rofL r xs) := by
          unfold voL
          exact List.mem_map.mpr ⟨pl r (1 + i), (at_pl ll).2, rfl⟩
        have nm := wo.num _ mem
        have rg : RowG r (rofL r xs) := (rof_gd h14 xl (absI xb)).1.g h14 (by decide) (by decide)
        have okM : OkD 40 50000 (numD m) := (okd_ld h14 xl xb m (List.mem_of_getElem? hm)).le (by decide) (by decide)
        refine cb1_ok ?_
        refine ⟨_, rfl, _, rfl, _, rfl, _, rfl, _, _, r, xs, rfl, ⟨W.R, rfl, hW4.R⟩, s04.tupI hu', h14, xl, fun v5 H5 s5 hv5 => ?_⟩
        have s05 := s04.trans s5
        have hk5 : H5 kq.1 = some (.tup ((pl r (1 + i)).map V.int)) := by
          rw [← epl]
          exact ((sL.trans s4).trans s5) _ _ (q3'.out kq (List.mem_of_getElem? hkq))
        refine ⟨_, rfl, _, v5, _, r, rofL r xs, pl r (1 + i), rfl, ⟨W.R, rfl, s05.tup hW.R⟩, hv5, ⟨kq.1, rfl, SqT.of hk5⟩, h14, rg, (at_pl ll).2, fun v6 H6 s6 hv6 => ?_⟩
        refine ⟨ordL r, v6, _, rfl, he, hv6, nm.1, nm.2, fun v7 H7 s7 hv7 => ?_⟩
        rw [← el] at hv7
        obtain ⟨a7, t7, rfl, _⟩ := id hv7
        refine rep_ok (num_dp hv7) okM ?_
        refine cb1_ok ?_
        refine ⟨_, rfl, _, rfl, (by show 1 ≤ sizeLine; decide), fun z nz => ?_⟩
        have sz : Same H7 (upd H7 z (.tup [.int (Fl r xs)])) := same_upd nz
        refine ⟨ordL r, Fl r xs, .ref z, rfl, he, ⟨z, rfl, SqT.of upd_same⟩, fun v8 H8 s8 hv8 => ?_⟩
        rw [rof_eq h14, ← em] at hv8
        obtain ⟨a8, t8, rfl, _⟩ := id hv8
        refine rep_ok (num_dp hv8) okM ?_
        refine ne_same ?_
        refine ite2 (fun c => absurd c (by decide)) fun _ => ?_
        exact ⟨_, rfl, ((((s4.trans s5).trans s6).trans s7).trans sz).trans s8⟩
      · rintro σ H4 ⟨u6, rfl, s4⟩
        exact q H4 (s03.trans s4)
    · obtain rfl : fl = .non := by
        rcases hfl with ⟨l, _⟩ | ⟨_, e⟩
        · exact absurd l nlv
        · exact e
      refine ⟨_, rfl, rfl, _, rfl, ?_⟩
      refine ite2 (fun c => absurd c (by decide)) (fun _ => ?_)
      exact q2 _ W u r xs ta p1 p2' j n1 nj _ _ _ _ H1 hW1 (s0.tupI hu') xl xb ht k1 k2 j1 jl e1 ej ne (fun H' s' => q H' (s0.trans s'))
end
end K45

/-! The law's drawn whole rows. -/
namespace K45
open PySem PySem.Spec PyProof.Rows L2
section
variable {P : Program} {w : World} {K : PySem.W.Frag} {mg : Str → Option Value} {base : Heap} {f f1 f2 f3 f4 f5 : Addr} {fd fd1 fd2 fd3 fd4 fd5 : FuncData}
def spLDW (K : PySem.W.Frag) : Sp := fun vs H Q _ => ∃ (d l : Addr) (W : Wd) (r : List Int), vs = [.ref d, .ref W.w] ∧ DeckAt d l H ∧ W.Off d l ∧ WrAt K H W r ∧ ∀ v xs H', DeckAt d l H' → Keeps d l H H' → xs.length = (placesL r).length → (∀ x ∈ xs, -(2 ^ 38) ≤ x ∧ x ≤ 2 ^ 38) → TupI K H' v xs → Q v H'
abbrev dwN : List Str := ["deck", "world", "most", "share", "found", "place", "x"]
theorem scDW : FnScope dwN ["deck", "world"] (defScope sLDrawnW) := ⟨rfl, rfl, rfl, by decide +kernel, rfl, by decide +kernel, by decide +kernel⟩
theorem ok_lDW (F : FnP K "_law_drawn_whole" sLDrawnW f fd) (B : Bl mg) (F1 : FnP K "_law_draw" sDraw f1 fd1) (g1 : mg "_law_draw" = some (.ref f1)) (G1 : FnOk P w K mg base CX0 1 f1 fd1 ["deck", "many"] spDraw)
    (F2 : FnP K "_law_pick" sPick f2 fd2) (g2 : mg "_law_pick" = some (.ref f2)) (G2 : FnOk P w K mg base CX0 2 f2 fd2 ["deck", "some"] (spPick K)) : FnOk P w K mg base CX0 3 f fd ["deck", "world"] (spLDW K) := by
  have b1 : Binds K fd1 ["deck", "many"] [] := F1.bindsN fun _ _ _ _ _ _ us hl => match us, hl with | [_, _], _ => rfl
  have b2 : Binds K fd2 ["deck", "some"] [] := F2.bindsN fun _ _ _ _ _ _ us hl => match us, hl with | [_, _], _ => rfl
  refine F.ok scDW (fun vs H Q E h => ?_) (fun cdv A outer s H vs Q E hr h => ?_)
  · obtain ⟨d, l, W, r, rfl, _⟩ := h
    rfl
  · obtain ⟨d, l, W, r, rfl, D, of, hW, k⟩ := h
    have hu := hu_of hr
    refine ⟨_, PSs.nox (pss_cons (ps_par (i := 2) (j := 3) rfl scDW.nd rfl rfl (by decide) rfl rfl (pa_cons (pe_call G2 hr (by rfl) g2 F2.kp b2 .nil pass0 (pa_cons (pv 0) (pa_cons (pe_lst (pa_cons pe_int (pa_cons pe_int (pa_cons pe_int (pa_cons pe_int pa_nil))))) pa_nil))) (pa_cons (pe_op op_add pe_int (pe_call G1 (hr.mono (by decide)) (by rfl) g1 F1.kp b1 .nil pass0 (pa_cons (pv 0) (pa_cons pe_int pa_nil)))) pa_nil)) rfl)
      (pss_cons (ps_set (i := 4) scDW.nd rfl (Or.inl rfl) (pe_lst pa_nil))
      (pss_cons (ps_for PassesOwn.never rfl (pi_list (pe_dget hu (pv 1) pe_str (fun _ _ => rfl))) (pg_name (i := 5) scDW.nd rfl (Or.inl rfl))
        (pss_cons (ps_set (i := 6) scDW.nd rfl (Or.inl rfl) (pe_op op_add (pe_call G1 (hr.mono (by decide)) (by rfl) g1 F1.kp b1 .nil pass0 (pa_cons (pv 0) (pa_cons (pv 2) pa_nil))) pe_int))
        (pss_one (ps_expr (pe_bm PySem.F.plainAttrs_list PySem.F.slot_list_append PySem.F.type_list_append mt_append (pv 4) (pa_cons
          (pe_ifExp (pt_cmpR op_lt (pe_call G1 (hr.mono (by decide)) (by rfl) g1 F1.kp b1 .nil pass0 (pa_cons (pv 0) (pa_cons pe_int pa_nil))) (pv 3) (nomark _))
            (pe_ifExp (pt_cmpR op_gt (pe_call G1 (hr.mono (by decide)) (by rfl) g1 F1.kp b1 .nil pass0 (pa_cons (pv 0) (pa_cons pe_int pa_nil))) pe_int (nomark _)) (pv 6) (pe_un un_neg (pv 6))) pe_int) pa_nil))))))
      (pss_one (ps_ret (pe_callTy call_tuple_of (by rfl) (B "tuple" (by decide +kernel)) (by decide +kernel) (pa_cons (pv 4) pa_nil))))))), ?_⟩
    have h16 := rr_pl0 r hW.rr
    refine ⟨_, rfl, (by show 4 ≤ sizeLine; decide), fun z nz => ?_⟩
    have sz : Same H (upd H z (.lst [.int 1, .int 2, .int 4, .int 9])) := same_upd nz
    have oz := off_deck D nz
    refine ⟨d, l, z, [.int 1, .int 2, .int 4, .int 9], rfl, D.new nz, upd_same, oz.2, by decide, by decide, fun v H1 hv D1 K1 => ?_⟩
    have Kz : Keeps d l H (upd H z (.lst [.int 1, .int 2, .int 4, .int 9])) := Same.keeps sz
    have K01 := Kz.trans K1
    obtain ⟨m, rfl, m1, m2⟩ : ∃ m : Int, v = .int m ∧ 1 ≤ m ∧ m ≤ 9 := by
      simp at hv
      rcases hv with rfl | rfl | rfl | rfl
      · exact ⟨1, rfl, by decide, by decide⟩
      · exact ⟨2, rfl, by decide, by decide⟩
      · exact ⟨4, rfl, by decide, by decide⟩
      · exact ⟨9, rfl, by decide, by decide⟩
    refine ⟨_, rfl, d, l, 4, rfl, D1, by decide, by decide, fun y H2 y0 y1 D2 K2 => ?_⟩
    have K02 := K01.trans K2
    refine ⟨_, _, rfl, rfl, _, _, rfl, ?_⟩
    refine ⟨by decide, fun F nF => ?_⟩
    have sF : Same H2 (upd H2 F (.lst [])) := same_upd nF
    have oF := off_deck D2 nF
    have D3 := D2.new (o := .lst []) nF
    have K03 := K02.trans (Same.keeps sF)
    have hW2 := K02.wr D of hW
    obtain ⟨kp, p1, p2, p3⟩ := id hW2.P
    have kl : kp.length = (placesL r).length := by rw [← p2, List.length_map]
    have atP : ∀ {H4 : Hp}, Keeps d l H2 H4 → H4 W.P = some (.lst (rf kp)) := fun K4 => K4 _ _ p1 (by
      obtain ⟨⟨m, j, h1⟩, _⟩ := deck_ref D2
      exact ne_of p1 h1 (by intro z; cases z)) of.P
    refine ⟨_, rfl, W.w, _, rfl, (sF.wr hW2).gP, W.P, rfl, ⟨_, SqL.of (sF _ _ p1)⟩, ?_⟩
    refine for_list (K := K) (a := W.P) (xs := rf kp) (fun i σ H4 => ∃ u5 u6, σ = [some (.ref d), some (.ref W.w), some (.int m), some (.int (1 + y)), some (.ref F), u5, u6] ∧ DeckAt d l H4 ∧ Keeps d l H2 H4 ∧ ∃ xs : List Int, xs.length = i ∧ H4 F = some (.lst (xs.map V.int)) ∧ ∀ x ∈ xs, -9 ≤ x ∧ x ≤ 9)
      ⟨none, none, rfl, D3, Same.keeps sF, [], rfl, upd_same, by simp⟩ (fun i σ H4 _ ⟨_, _, _, _, K4, _⟩ => SqL.of (atP K4)) ?_ ?_
    · rintro i y4 σ H4 hi ⟨u5, u6, rfl, D4, K4, xs, xl, gF, xb⟩
      have il : i < (placesL r).length := by
        have := ltL hi
        rw [List.length_map, kl] at this
        exact this
      refine ⟨_, rfl, _, rfl, d, l, m, rfl, D4, by omega, by omega, fun x0 H5 x00 x01 D5 K5 => ⟨_, _, rfl, rfl, ?_⟩⟩
      have g5 := K5 F _ gF oF.1 oF.2
      refine ⟨_, rfl, Or.inl ⟨rfl, _, SqL.of g5⟩, ?_⟩
      have fin : ∀ (v : Int) (H' : Hp), DeckAt d l H' → Keeps d l H5 H' → -9 ≤ v → v ≤ 9 → ∃ v6 : Option V, ∃ v7 : Option V, [some (V.ref d), some (.ref W.w), some (.int m), some (.int (1 + y)), some (.ref F), some y4, some (.int (x0 + 1))] = [some (V.ref d), some (.ref W.w), some (.int m), some (.int (1 + y)), some (.ref F), v6, v7] ∧ DeckAt d l (upd H' F (.lst (xs.map V.int ++ [.int v]))) ∧ Keeps d l H2 (upd H' F (.lst (xs.map V.int ++ [.int v]))) ∧ ∃ xs' : List Int, xs'.length = i + 1 ∧ upd H' F (.lst (xs.map V.int ++ [.int v])) F = some (.lst (xs'.map V.int)) ∧ ∀ x ∈ xs', -9 ≤ x ∧ x ≤ 9 := fun v H' D' K' v1 v2 => by
        refine ⟨_, _, rfl, D'.off oF.1 oF.2, ((K4.trans K5).trans K').at_new nF, xs ++ [v], by simp [xl], ?_, fun x hx => ?_⟩
        · rw [upd_same, List.map_append]
          rfl
        · rcases List.mem_append.mp hx with q | q
          · exact xb x q
          · rw [List.mem_singleton.mp q]
            exact ⟨v1, v2⟩
      have sl : (xs.map V.int).length < sizeLine := sl_lt (by rw [List.length_map]; omega)
      refine ⟨_, rfl, d, l, 4, rfl, D5, by decide, by decide, fun a H6 a0 a1 D6 K6 => ?_⟩
      have g6 := K6 F _ g5 oF.1 oF.2
      refine ⟨_, rfl, _, _, rfl, rfl, _, rfl, ?_⟩
      refine ite2 (fun _ => ?_) (fun _ => ?_)
      · refine ⟨_, rfl, d, l, 4, rfl, D6, by decide, by decide, fun b H7 b0 b1 D7 K7 => ?_⟩
        have g7 := K7 F _ g6 oF.1 oF.2
        refine ⟨_, _, rfl, rfl, _, rfl, ?_⟩
        refine ite2 (fun _ => ?_) (fun _ => ?_)
        · exact ⟨_, rfl, F, _, _, rfl, rfl, g7, sl, fin _ H7 D7 (K6.trans K7) (by omega) (by omega)⟩
        · exact ⟨_, rfl, _, rfl, F, _, _, rfl, rfl, g7, sl, fin _ H7 D7 (K6.trans K7) (by omega) (by omega)⟩
      · exact ⟨F, _, _, rfl, rfl, g6, sl, fin 0 H6 D6 K6 (by decide) (by decide)⟩
    · rintro σ H4 ⟨u5, u6, rfl, D4, K4, xs, xl, gF, xb⟩
      rw [List.length_map, kl] at xl
      refine ⟨_, rfl, F, _, rfl, .inl ⟨SqL.of gF, fun t nt => ?_⟩⟩
      have st : Same H4 (upd H4 t (.tup (xs.map V.int))) := same_upd nt
      exact k _ xs _ (st.deck D4) ((K02.trans K4).trans (Same.keeps st)) xl (fun x hx => by have := xb x hx; omega) ⟨t, rfl, SqT.of upd_same⟩
end
end K45

/-! A dict that is written with tuples of ints as keys. -/
namespace K45
open PySem PySem.Spec PyProof.Rows L2
/-- keys, where they stand, and what they lead to, put into a dict one after another -/
def mergeT (kvs : List (List Key × Addr × V)) : List (List Key × V) := kvs.foldl (fun acc q => putK acc q.1 q.2.2) []
/-- {k: v, ..}, the keys tuples -/
def tDispT (trs : List (TE × TE)) : TE := fun σ H Q => ∀ p, H p = none → tPairs trs σ (upd H p (.dT [])) fun ps H2 => H2 p = some (.dT []) ∧ ∃ kvs : List (List Key × Addr × V), ps = kvs.map (fun q => (V.ref q.2.1, q.2.2)) ∧ (∀ q ∈ kvs, H2 q.2.1 = some (.tup (q.1.map kV))) ∧ kvs.length ≤ 15 ∧ (mergeT kvs).length ≤ 15 ∧ Q (.ref p) (upd H2 p (.dT (mergeT kvs)))
theorem carries_of {P : Program} {w : World} {H : Hp} {h : Heap} (ok : HOk P w H h) : ∀ {kvs : List (List Key × Addr × V)} {vs : List (Value × Value)}, VV (kvs.map fun q => (V.ref q.2.1, q.2.2)) vs → (∀ q ∈ kvs, H q.2.1 = some (.tup (q.1.map kV))) → ∃ ps : List (List Key × Addr × Value), CarriesH (tupleKind (mixKind P w)) h vs ps ∧ Paired (fun (q : List Key × Addr × V) (p : List Key × Addr × Value) => q.1 = p.1 ∧ q.2.1 = p.2.1 ∧ RelV q.2.2 p.2.2) kvs ps
  | [], vs, h, _ => by
    cases h
    exact ⟨[], trivial, .nil⟩
  | q :: kvs, vs, h, hk => by
    cases h with
    | cons h1 h2 =>
      rename_i v vs
      obtain ⟨ps, c, r⟩ := carries_of ok h2 fun q hq => hk q (List.mem_cons_of_mem _ hq)
      obtain ⟨a, u⟩ := v
      obtain ⟨r1, r2⟩ := h1
      have r1 : a = Value.ref q.2.1 := r1
      have hk0 := hk q List.mem_cons_self
      exact ⟨(q.1, q.2.1, u) :: ps, by
        unfold CarriesH
        exact ⟨r1, rfl, key_of ok hk0, c⟩, .cons ⟨rfl, rfl, r2⟩ r⟩
theorem kt_merge {H : Hp} : ∀ {kvs : List (List Key × Addr × V)} {ps : List (List Key × Addr × Value)} {acc : List (List Key × V)} {xs : List (List Key × Addr × Value)}, Paired (fun (q : List Key × Addr × V) (p : List Key × Addr × Value) => q.1 = p.1 ∧ q.2.1 = p.2.1 ∧ RelV q.2.2 p.2.2) kvs ps → (∀ q ∈ kvs, H q.2.1 = some (.tup (q.1.map kV))) → KT H acc xs → KT H (kvs.foldl (fun acc q => putK acc q.1 q.2.2) acc) (storedAllH xs ps)
  | [], _, _, _, h, _, k => by
    cases h
    exact k
  | q :: kvs, _, acc, xs, h, hk, k => by
    cases h with
    | cons h1 h2 =>
      rename_i p ps
      obtain ⟨e1, e2, e3⟩ := h1
      have k1 := k.put q.1 (hk q List.mem_cons_self) e3
      have := kt_merge h2 (fun q hq => hk q (List.mem_cons_of_mem _ hq)) k1
      rw [e1, e2] at this
      have e4 : storedAllH xs (p :: ps) = storedAllH (storedH xs p.1 p.2.1 p.2.2) ps := rfl
      rw [e4]
      have e5 : (q :: kvs).foldl (fun acc q => putK acc q.1 q.2.2) acc = kvs.foldl (fun acc q => putK acc q.1 q.2.2) (putK acc p.1 q.2.2) := by rw [List.foldl_cons, e1]
      rw [e5]
      exact this
section
variable {X : Cx}
theorem pe_dispT {pos : Pos} {keys : List (Option Expr)} {values : List Expr} {trs : List (TE × TE)} (hu : X.A.units + 64 < cLine) (hp : PPs X pos keys values trs)
    (hz : List.zip (evalEachOpt keys X.env) (List.map (fun v => do let x ← v; standAt pos; pure x) (evalEach values X.env)) = List.map (fun p => (some (Prod.fst p), Prod.snd p)) (pairTrees keys values X.env pos)) (h0 : pairTrees keys values X.env pos ≠ []) (h15 : (pairTrees keys values X.env pos).length ≤ 15) : PE X (.Dict keys values pos) (tDispT trs) := by
  refine ⟨fun pins s σ H Q I h => ?_⟩
  rw [arm_eval_Dict, hz, dictDisplay_pairs _ h0 (by omega)]
  refine wpAny_bind (wpAny_standAt (wpAny_bind ?_))
  have nD : H s.heap.objs.size = none := I.hok.fresh (Nat.le_refl _)
  refine wpAny_subDictH (knd := tupleKind (mixKind X.prog X.w)) (show X.A.units < cLine by omega) h15 ?_
  generalize hD : s.heap.objs.size = D at nD
  have I3 : Inv X pins σ (upd H D (.dT [])) ({ s with heap := s.heap.push { cls := .type "dict", data := .dict #[] } } : Shared) := by
    refine I.laid (t' := s.toks) (fun b o e => Heap.get?_push_of_some _ e) (Nat.le_of_eq hD) ?_
    rw [← hD]
    exact dt_empty s.heap I.big
  refine thn (hp.run pins _ σ _ _ I3 (h D nD)) ?_
  rintro vs s1 ⟨ps, H2, I2, rv, gD, kvs, rfl, hk, hl, hm, q⟩
  obtain ⟨pz, c, pr⟩ := carries_of I2.hok rv hk
  obtain ⟨z, hd, xs, rel, dd⟩ := dt_of I2.hok gD
  cases rel
  refine ⟨pz, c, dd, fun h' tk hd' hs => ?_⟩
  refine wpAny_pure ?_
  refine ⟨.ref D, _, ?_, rfl, q⟩
  obtain ⟨o, es, ep, hq, h2, h3, h4, _, h5⟩ := hd'
  refine d_write I2 (by rw [gD]; exact True.intro) hs ⟨o, hq⟩ ⟨?_, hd, _, kt_merge (acc := []) (xs := []) pr (fun q hq => ?_) .nil, o, es, ep, hq, h2, h3, h4, h5⟩
  · show (mergeT kvs).length ≤ sizeLine
    exact Nat.le_trans hm (by decide)
  · rw [upd_ne (ne_of (hk q hq) gD (fun z => nomatch z))]
    exact hk q hq
end
end K45

/-! The law's flat whole rows. -/
namespace K45
open PySem PySem.Spec PyProof.Rows L2
theorem keeps_free {d l p : Addr} {H H' : Hp} (k : Keeps d l H H') (D : DeckAt d l H') (n : H' p = none) : H p = none := by
  have o := off_deck D n
  cases e : H p with
  | none => rfl
  | some x =>
    rw [k p x e o.1 o.2] at n
    cases n
/-! ### the dict of lots -/
def tLots : List (List Int × List Int) → List (TE × TE)
  | [] => []
  | q :: ps => (tTup (tInts q.1), tTup (tInts q.2)) :: tLots ps
/-- what stands of it: keys, their tuples, the lots' tuples, the lots -/
structure LotAt (H : Hp) (q : List Int × Addr × Addr × List Int) : Prop where
  k : H q.2.1 = some (.tup (q.1.map V.int))
  v : H q.2.2.1 = some (.tup (q.2.2.2.map V.int))
theorem lots_ok : ∀ {ps : List (List Int × List Int)} {σ : L2.St} {H : Hp} {Q : List (V × V) → Hp → Prop}, (∀ q ∈ ps, q.1.length ≤ 1000 ∧ q.2.length ≤ 1000) → (∀ (qs : List (List Int × Addr × Addr × List Int)) H', Same H H' → (∀ q ∈ qs, LotAt H' q) → qs.map (fun q => (q.1, q.2.2.2)) = ps → Q (qs.map fun q => (V.ref q.2.1, V.ref q.2.2.1)) H') → tPairs (tLots ps) σ H Q
  | [], σ, H, Q, _, q => q [] H (Same.refl H) (by simp) rfl
  | p :: ps, σ, H, Q, h, q => by
    show tInts p.1 σ H fun xs H1 => xs.length ≤ sizeLine ∧ ∀ a, H1 a = none → tInts p.2 σ (upd H1 a (.tup xs)) fun ys H2 => ys.length ≤ sizeLine ∧ ∀ b, H2 b = none → tPairs (tLots ps) σ (upd H2 b (.tup ys)) fun vs H3 => Q ((.ref a, .ref b) :: vs) H3
    have hp := h p List.mem_cons_self
    refine ints_ok ⟨sl_1000 (by rw [List.length_map]; omega), fun a na => ?_⟩
    refine ints_ok ⟨sl_1000 (by rw [List.length_map]; omega), fun b nb => ?_⟩
    have s1 : Same H (upd H a (.tup (p.1.map V.int))) := same_upd na
    have s2 : Same (upd H a (.tup (p.1.map V.int))) (upd (upd H a (.tup (p.1.map V.int))) b (.tup (p.2.map V.int))) := same_upd nb
    refine lots_ok (fun x hx => h x (List.mem_cons_of_mem _ hx)) fun qs H' s3 ht e => ?_
    refine q ((p.1, a, b, p.2) :: qs) H' ((s1.trans s2).trans s3) (fun y hy => ?_) (by rw [List.map_cons, e])
    rcases List.mem_cons.mp hy with rfl | hy
    · exact ⟨s3 _ _ (s2 _ _ upd_same), s3 _ _ upd_same⟩
    · exact ht y hy
def lotS : List (List Int × List Int) := [([7], [0, 1, 3]), ([13], [0, 1, 3, 9]), ([11], [1, 3, 4, 5, 9]), ([3], [0, 1]), ([4], [0, 1, 2]), ([5], [0, 1, 2, 3])]
theorem lotS_in : ∀ q ∈ lotS, ∀ s ∈ q.2, 0 ≤ s ∧ s < ((placesL q.1).length : Int) := by decide +kernel
theorem lotS_len : ∀ q ∈ lotS, q.1.length ≤ 1000 ∧ q.2.length ≤ 1000 := by decide +kernel
theorem lotS_nd : (lotS.map (·.1)).Nodup := by decide +kernel
theorem putK_new {kvs : List (List Key × V)} {k : List Key} {v : V} (h : ∀ q ∈ kvs, q.1 ≠ k) : putK kvs k v = kvs ++ [(k, v)] := by
  unfold putK
  rw [if_neg]
  intro c
  obtain ⟨q, hq, e⟩ := List.any_eq_true.mp c
  exact h q hq (of_decide_eq_true e)
theorem merge_nd : ∀ {kvs : List (List Key × Addr × V)} {acc : List (List Key × V)}, (kvs.map (·.1)).Nodup → (∀ q ∈ acc, ∀ p ∈ kvs, q.1 ≠ p.1) → kvs.foldl (fun acc q => putK acc q.1 q.2.2) acc = acc ++ kvs.map fun q => (q.1, q.2.2)
  | [], acc, _, _ => by simp
  | q :: kvs, acc, nd, h => by
    rw [List.foldl_cons, putK_new (fun p hp => h p hp q List.mem_cons_self)]
    rw [List.map_cons, List.nodup_cons] at nd
    rw [merge_nd nd.2 (fun p hp p2 hp2 => ?_)]
    · simp
    · rcases List.mem_append.mp hp with z | z
      · exact h p z p2 (List.mem_cons_of_mem _ hp2)
      · rw [List.mem_singleton.mp z]
        intro c
        exact nd.1 (by rw [c]; exact List.mem_map_of_mem hp2)
theorem val_lots {r : List Int} : ∀ (qs : List (List Int × Addr × Addr × List Int)), valV (qs.map fun q => (kT q.1, V.ref q.2.2.1)) (kT r) = none ∨ ∃ q ∈ qs, q.1 = r ∧ valV (qs.map fun q => (kT q.1, V.ref q.2.2.1)) (kT r) = some (.ref q.2.2.1)
  | [] => .inl rfl
  | q :: qs => by
    rw [List.map_cons]
    by_cases c : q.1 = r
    · exact .inr ⟨q, List.mem_cons_self, c, by rw [L2.valV_pos (by rw [c])]⟩
    · rw [L2.valV_neg (fun z => c (kT_inj z))]
      rcases val_lots (r := r) qs with h | ⟨p, hp, e1, e2⟩
      · exact .inl h
      · exact .inr ⟨p, List.mem_cons_of_mem _ hp, e1, e2⟩
end K45

/-! The law's flat whole rows: the def by parts. -/
namespace K45
open PySem PySem.Spec PyProof.Rows L2
abbrev fwN : List Str := ["deck", "world", "way", "n", "found", "at", "k", "lots", "seat", "x"]
theorem scFW : FnScope fwN ["deck", "world"] (defScope sLFlatW) := ⟨rfl, rfl, rfl, by decide +kernel, rfl, by decide +kernel, by decide +kernel⟩
abbrev fwB : List Stmt := defBody sLFlatW
/-- where a part stands -/
structure FwAt (d l : Addr) (Hb H : Hp) (F : Addr) (xs : List Int) (n : Nat) (M : Int) : Prop where
  D : DeckAt d l H
  k : Keeps d l Hb H
  nF : Hb F = none
  oF : F ≠ d ∧ F ≠ l
  F : H F = some (.lst (xs.map V.int))
  len : xs.length = n
  bd : ∀ x ∈ xs, -M ≤ x ∧ x ≤ M
theorem getD_bd {xs : List Int} {M : Int} (h : ∀ x ∈ xs, -M ≤ x ∧ x ≤ M) {i : Nat} (hi : i < xs.length) : -M ≤ xs.getD i 0 ∧ xs.getD i 0 ≤ M := by
  rw [List.getD_eq_getElem?_getD, List.getElem?_eq_getElem hi]
  exact h _ (List.getElem_mem hi)
theorem FwAt.same {d l F : Addr} {Hb H H' : Hp} {xs : List Int} {n : Nat} {M : Int} (h : FwAt d l Hb H F xs n M) (s : Same H H') : FwAt d l Hb H' F xs n M := ⟨s.deck h.D, h.k.trans (Same.keeps s), h.nF, h.oF, s _ _ h.F, h.len, h.bd⟩
theorem FwAt.wide {d l F : Addr} {Hb H : Hp} {xs : List Int} {n : Nat} {M M' : Int} (h : FwAt d l Hb H F xs n M) (c : M ≤ M') : FwAt d l Hb H F xs n M' := ⟨h.D, h.k, h.nF, h.oF, h.F, h.len, fun x hx => by have := h.bd x hx; omega⟩
/-- an item changed by a little -/
theorem FwAt.set {d l F : Addr} {Hb H : Hp} {xs : List Int} {n : Nat} {M : Int} (h : FwAt d l Hb H F xs n M) {i : Nat} (hi : i < n) {k c : Int} (k1 : -c ≤ k) (k2 : k ≤ c) (c0 : 0 ≤ c) : FwAt d l Hb (upd H F (.lst ((xs.set i (xs.getD i 0 + k)).map V.int))) F (xs.set i (xs.getD i 0 + k)) n (M + c) := by
  have g := getD_bd h.bd (show i < xs.length by rw [h.len]; exact hi)
  refine ⟨h.D.off h.oF.1 h.oF.2, h.k.at_new h.nF, h.nF, h.oF, upd_same, by rw [List.length_set, h.len], fun x hx => ?_⟩
  rcases List.mem_or_eq_of_mem_set hx with z | z
  · have := h.bd x z
    omega
  · rw [z]
    omega
section
variable {P : Program} {w : World} {K : PySem.W.Frag} {mg : Str → Option Value} {base : Heap} {f f1 f2 f3 f4 f5 : Addr} {fd fd1 fd2 fd3 fd4 fd5 : FuncData} {cdv : Value} {A : Around} {outer : List Env} {s0 : Shared} {H0 : Hp} {E : XK}
theorem fw8 (B : Bl mg) : ∃ t, PSs (cxOf CX0 P w K mg base fwN "_law_flat_whole" (defScope sLFlatW) f cdv A outer s0 H0 E).nox (fwB.drop 8) t ∧ ∀ (D : Ends) (d l F : Addr) (v1 : Option V) (way n : Int) (at_ : Nat) (kk : Int) (u7 u8 : Option V) (Hb H : Hp) (xs : List Int) (N : Nat), FwAt d l Hb H F xs N (2 ^ 38 - 1) → at_ < N → N ≤ 16 → (∀ v ys H', DeckAt d l H' → Keeps d l Hb H' → ys.length = N → (∀ x ∈ ys, -(2 ^ 38) ≤ x ∧ x ≤ 2 ^ 38) → TupI K H' v ys → D.rt v H') →
    t D [some (.ref d), v1, some (.int way), some (.int n), some (.ref F), some (.int (at_ : Nat)), some (.int kk), u7, u8, none] H := by
  refine ⟨_, pss_cons (ps_if (pt_cmpR op_eq (pv 2) pe_int (nomark _)) (pss_one (ps_asg (pe_op op_add (pe_ix ix_list (pv 4) (pv 5) (fun _ _ => rfl)) pe_int) (pg_sub (pv 4) (pv 5) set_list))) pss_nil)
    (pss_one (ps_ret (pe_callTy call_tuple_of (by rfl) (B "tuple" (by decide +kernel)) (by decide +kernel) (pa_cons (pv 4) pa_nil)))), ?_⟩
  intro D d l F v1 way n at_ kk u7 u8 Hb H xs N h ha h16 k
  have fin : ∀ (ys : List Int) (H' : Hp), FwAt d l Hb H' F ys N (2 ^ 38) → ∀ t, H' t = none → D.rt (.ref t) (upd H' t (.tup (ys.map V.int))) := fun ys H' g t nt =>
    k _ ys _ ((same_upd nt).deck g.D) (g.k.trans (Same.keeps (same_upd nt))) g.len g.bd ⟨t, rfl, SqT.of upd_same⟩
  have tp : atI (xs.map V.int) (at_ : Int) = some (V.int (xs.getD at_ 0)) := atI_nat (getD_of (by rw [h.len]; exact ha))
  refine ⟨_, rfl, rfl, _, rfl, ?_⟩
  refine ite2 (fun _ => ?_) (fun _ => ?_)
  · refine ⟨_, rfl, _, rfl, F, _, _, _, rfl, rfl, SqL.of h.F, tp, _, _, rfl, rfl, _, rfl, _, rfl, F, _, _, at_, rfl, rfl, h.F, ?_, ?_⟩
    · rw [List.length_map, h.len]
      exact ixN_nat ha
    · have g := h.set ha (k := 1) (c := 1) (by decide) (by decide) (by decide)
      rw [← List.map_set]
      exact ⟨_, rfl, F, _, rfl, .inl ⟨SqL.of g.F, fun t nt => fin _ _ g t nt⟩⟩
  · refine ⟨_, rfl, F, _, rfl, .inl ⟨SqL.of h.F, fun t nt => fin _ _ ⟨h.D, h.k, h.nF, h.oF, h.F, h.len, fun x hx => ?_⟩ t nt⟩⟩
    have := h.bd x hx
    omega
theorem fw7 (B : Bl mg) (hr : Room 3 (A.deeper (envOfC "_law_flat_whole" (defScope sLFlatW) s0.heap.objs.size f cdv))) (F1 : FnP K "_law_draw" sDraw f1 fd1) (g1 : mg "_law_draw" = some (.ref f1)) (G1 : FnOk P w K mg base CX0 1 f1 fd1 ["deck", "many"] spDraw) :
    ∃ t, PSs (cxOf CX0 P w K mg base fwN "_law_flat_whole" (defScope sLFlatW) f cdv A outer s0 H0 E).nox (fwB.drop 7) t ∧ ∀ (D : Ends) (d l F : Addr) (v1 : Option V) (way n : Int) (at_ : Nat) (kk : Int) (u7 u8 : Option V) (Hb H : Hp) (xs : List Int) (N : Nat), FwAt d l Hb H F xs N 20 → at_ < N → N ≤ 16 → (∀ v ys H', DeckAt d l H' → Keeps d l Hb H' → ys.length = N → (∀ x ∈ ys, -(2 ^ 38) ≤ x ∧ x ≤ 2 ^ 38) → TupI K H' v ys → D.rt v H') →
    t D [some (.ref d), v1, some (.int way), some (.int n), some (.ref F), some (.int (at_ : Nat)), some (.int kk), u7, u8, none] H := by
  have b1 : Binds K fd1 ["deck", "many"] [] := F1.bindsN fun _ _ _ _ _ _ us hl => match us, hl with | [_, _], _ => rfl
  obtain ⟨t8, p8, q8⟩ := fw8 (P := P) (w := w) (K := K) (mg := mg) (base := base) (f := f) (cdv := cdv) (A := A) (outer := outer) (s0 := s0) (H0 := H0) (E := E) B
  refine ⟨_, pss_cons (ps_if (pt_cmpR op_eq (pe_call G1 (hr.mono (by decide)) (by rfl) g1 F1.kp b1 .nil pass0 (pa_cons (pv 0) (pa_cons pe_int pa_nil))) pe_int (nomark _))
      (pss_one (ps_setLc (i := 4) (own := [("x", 9)]) (g := gName 9) (tt := tYes) (te := tOp rMul (tVar 9) (tOp (rI CPow fun i j => V.int (i ^ Int.toNat j)) (tC (.int 10)) (tC (.int 10)))) rfl scFW.nd rfl rfl (sw_true rfl rfl rfl (by decide +kernel)) (pi_list (pv 4))
        (blkOk_by (own := [("x", 9)]) (N := fwN) (sc := defScope sLFlatW) (by decide +kernel)) (fun _ _ _ _ _ => pg_name (i := 9) scFW.nd rfl (Or.inl rfl)) (fun _ _ _ _ _ => pts_nil) (fun _ _ _ _ _ => pe_op op_mul (pv 9) (pe_op op_pow pe_int pe_int)))) pss_nil) p8, ?_⟩
  intro D d l F v1 way n at_ kk u7 u8 Hb H xs N h ha h16 k
  refine ⟨_, rfl, d, l, 5, rfl, h.D, by decide, by decide, fun a H1 a0 a1 D1 K1 => ?_⟩
  have h1 : FwAt d l Hb H1 F xs N 20 := ⟨D1, h.k.trans K1, h.nF, h.oF, K1 F _ h.F h.oF.1 h.oF.2, h.len, h.bd⟩
  refine ⟨rfl, _, rfl, ?_⟩
  refine ite2 (fun _ => ?_) (fun _ => ?_)
  · refine ⟨_, rfl, F, rfl, ⟨_, SqL.of h1.F⟩, fun L nL => ?_⟩
    refine lc_list (K := K) (a := F) (xs := xs.map V.int) (fun i H2 => Same H1 H2 ∧ H2 L = some (.lst (((xs.take i).map fun x => x * 10 ^ 10).map V.int))) ⟨same_upd nL, by rw [upd_same]; rfl⟩ (fun i H2 _ ⟨s2, _⟩ => SqL.of (s2 _ _ h1.F)) ?_ ?_
    · rintro i y H2 hi ⟨s2, g2⟩
      obtain ⟨x, rfl, hx⟩ := getI hi
      have xb := h.bd x (List.mem_of_getElem? hx)
      have il := ltL hx
      refine ⟨rfl, _, rfl, _, _, rfl, rfl, ⟨by decide, by decide⟩, _, _, rfl, rfl, Or.inl ⟨by omega, by omega⟩, ?_⟩
      refine ⟨_, g2, sl_lt (by rw [List.length_map, List.length_map, List.length_take, h.len]; omega), same_at s2 nL, ?_⟩
      rw [upd_same, takeS hx, List.map_append, List.map_append]
      rfl
    · rintro H2 ⟨s2, g2⟩
      rw [List.length_map, List.take_length] at g2
      have nL1 := nL
      have oL := off_deck D1 nL
      refine q8 D d l L v1 way n at_ kk u7 u8 Hb H2 (xs.map fun x => x * 10 ^ 10) N ⟨s2.deck D1, h1.k.trans (Same.keeps s2), keeps_free h1.k D1 nL, oL, g2, by rw [List.length_map, h.len], fun x hx => ?_⟩ ha h16 k
      obtain ⟨y, hy, rfl⟩ := List.mem_map.mp hx
      have := h.bd y hy
      omega
  · refine q8 D d l F v1 way n at_ kk u7 u8 Hb H1 xs N ⟨D1, h1.k, h1.nF, h1.oF, h1.F, h1.len, fun x hx => ?_⟩ ha h16 k
    have := h.bd x hx
    omega
theorem fw5 (B : Bl mg) (hr : Room 3 (A.deeper (envOfC "_law_flat_whole" (defScope sLFlatW) s0.heap.objs.size f cdv))) (F1 : FnP K "_law_draw" sDraw f1 fd1) (g1 : mg "_law_draw" = some (.ref f1)) (G1 : FnOk P w K mg base CX0 1 f1 fd1 ["deck", "many"] spDraw) :
    ∃ t, PSs (cxOf CX0 P w K mg base fwN "_law_flat_whole" (defScope sLFlatW) f cdv A outer s0 H0 E).nox (fwB.drop 5) t ∧ ∀ (D : Ends) (d l F : Addr) (W : Wd) (r : List Int) (way n : Int) (at_ : Nat) (kk : Int) (u7 u8 : Option V) (Hb H : Hp) (xs : List Int) (N : Nat), FwAt d l Hb H F xs N 5 → N = (placesL r).length → WrAt K H W r → at_ < N → N ≤ 16 → -3 ≤ kk → kk ≤ 3 → (∀ v ys H', DeckAt d l H' → Keeps d l Hb H' → ys.length = N → (∀ x ∈ ys, -(2 ^ 38) ≤ x ∧ x ≤ 2 ^ 38) → TupI K H' v ys → D.rt v H') →
    t D [some (.ref d), some (.ref W.w), some (.int way), some (.int n), some (.ref F), some (.int (at_ : Nat)), some (.int kk), u7, u8, none] H := by
  have hu := hu_of hr
  have hu64 := hr.units
  have b1 : Binds K fd1 ["deck", "many"] [] := F1.bindsN fun _ _ _ _ _ _ us hl => match us, hl with | [_, _], _ => rfl
  obtain ⟨t7, p7, q7⟩ := fw7 (P := P) (w := w) (K := K) (mg := mg) (base := base) (f := f) (cdv := cdv) (A := A) (outer := outer) (s0 := s0) (H0 := H0) (E := E) B hr F1 g1 G1
  refine ⟨_, pss_cons (ps_set (i := 7) scFW.nd rfl (Or.inl rfl) (pe_dispT hu64 (trs := tLots lotS)
      (pps_cons (pe_tup (pa_cons pe_int pa_nil)) (pe_tup (pa_cons pe_int (pa_cons pe_int (pa_cons pe_int pa_nil))))
      (pps_cons (pe_tup (pa_cons pe_int pa_nil)) (pe_tup (pa_cons pe_int (pa_cons pe_int (pa_cons pe_int (pa_cons pe_int pa_nil)))))
      (pps_cons (pe_tup (pa_cons pe_int pa_nil)) (pe_tup (pa_cons pe_int (pa_cons pe_int (pa_cons pe_int (pa_cons pe_int (pa_cons pe_int pa_nil))))))
      (pps_cons (pe_tup (pa_cons pe_int pa_nil)) (pe_tup (pa_cons pe_int (pa_cons pe_int pa_nil)))
      (pps_cons (pe_tup (pa_cons pe_int pa_nil)) (pe_tup (pa_cons pe_int (pa_cons pe_int (pa_cons pe_int pa_nil))))
      (pps_cons (pe_tup (pa_cons pe_int pa_nil)) (pe_tup (pa_cons pe_int (pa_cons pe_int (pa_cons pe_int (pa_cons pe_int pa_nil))))) pps_nil))))))
      rfl (by simp [pairTrees]) (by simp [pairTrees])))
    (pss_cons (ps_if (pt_cmpR op_gt (pv 2) pe_int (nomark _))
      (pss_one (ps_for PassesOwn.never rfl (pi_tup (pe_dget2 hu (pv 7) (pe_dget hu (pv 1) pe_str (fun _ _ => rfl)) (pe_tup (pa_cons pe_int pa_nil)) ⟨rfl, rfl, rfl, rfl⟩)) (pg_name (i := 8) scFW.nd rfl (Or.inl rfl))
        (pss_one (ps_asg (pe_op op_add (pe_ix ix_list (pv 4) (pv 8) (fun _ _ => rfl)) (pv 6)) (pg_sub (pv 4) (pv 8) set_list))))) pss_nil) p7), ?_⟩
  intro D d l F W r way n at_ kk u7 u8 Hb H xs N h hN hW ha h16 k1 k2 k
  subst hN
  intro p np
  refine lots_ok lotS_len fun qs H1 s1 hq eq => ?_
  have gp : H1 p = some (.dT []) := s1 _ _ upd_same
  have ql : qs.length = 6 := by
    have := congrArg List.length eq
    rw [List.length_map] at this
    exact this
  have ek : qs.map (·.1) = lotS.map (·.1) := by rw [← eq, List.map_map]; rfl
  have nd : ((qs.map fun q => (kT q.1, q.2.1, V.ref q.2.2.1)).map (·.1)).Nodup := by
    have e : ((qs.map fun q => (kT q.1, q.2.1, V.ref q.2.2.1)).map (·.1)) = (qs.map (·.1)).map kT := by rw [List.map_map, List.map_map]; rfl
    rw [e, ek]
    exact nd_kT lotS_nd
  have em : mergeT (qs.map fun q => (kT q.1, q.2.1, V.ref q.2.2.1)) = qs.map fun q => (kT q.1, V.ref q.2.2.1) := by
    unfold mergeT
    rw [merge_nd nd (by simp), List.nil_append, List.map_map]
    rfl
  refine ⟨gp, qs.map fun q => (kT q.1, q.2.1, V.ref q.2.2.1), by rw [List.map_map]; rfl, fun q hm => ?_, by rw [List.length_map]; omega, by rw [em, List.length_map]; omega, ?_⟩
  · obtain ⟨x, hx, rfl⟩ := List.mem_map.mp hm
    show H1 x.2.1 = some (.tup ((kT x.1).map kV))
    rw [kT_V]
    exact (hq x hx).k
  rw [em]
  have s2 : Same H (upd H1 p (.dT (qs.map fun q => (kT q.1, V.ref q.2.2.1)))) := same_at ((same_upd np).trans s1) np
  have hq2 : ∀ q ∈ qs, LotAt (upd H1 p (.dT (qs.map fun q => (kT q.1, V.ref q.2.2.1)))) q := fun q hm => by
    have c := hq q hm
    exact ⟨by rw [upd_ne (ne_of c.k gp (by intro z; cases z))]; exact c.k, by rw [upd_ne (ne_of c.v gp (by intro z; cases z))]; exact c.v⟩
  generalize hH2 : upd H1 p (.dT (qs.map fun q => (kT q.1, V.ref q.2.2.1))) = H2 at s2 hq2
  have gp2 : H2 p = some (.dT (qs.map fun q => (kT q.1, V.ref q.2.2.1))) := by rw [← hH2, upd_same]
  have h2 := h.same s2
  have hW2 := s2.wr hW
  refine ⟨_, rfl, _, _, rfl, rfl, _, rfl, ?_⟩
  refine ite2 (fun _ => ?_) (fun _ => ?_)
  · refine ⟨_, rfl, p, rfl, .inr ⟨_, .of gp2⟩, _, rfl, W.w, _, rfl, hW2.gR, (by show 1 ≤ sizeLine; decide), fun z nz => ?_⟩
    have sz : Same H2 (upd H2 z (.tup [.int 0])) := same_upd nz
    have hW3 := sz.wr hW2
    refine ⟨_, DGet.t (k := kT r) (sz _ _ gp2) (by rw [kT_V]; exact hW3.R0), ?_⟩
    obtain ⟨sa, seats, e1, e2, e3, e4⟩ : ∃ (sa : Addr) (seats : List Int), Option.getD (valV (qs.map fun q => (kT q.1, V.ref q.2.2.1)) (kT r)) (.ref z) = .ref sa ∧ upd H2 z (.tup [.int 0]) sa = some (.tup (seats.map V.int)) ∧ (∀ s ∈ seats, 0 ≤ s ∧ s < ((placesL r).length : Int)) ∧ seats.length ≤ 5 := by
      rcases val_lots (r := r) qs with c | ⟨q, hm, c1, c2⟩
      · rw [c]
        refine ⟨z, [0], rfl, upd_same, fun s hs => ?_, by decide⟩
        rw [List.mem_singleton.mp hs]
        have := wo_pos r hW.rr
        omega
      · rw [c2]
        have hl : (q.1, q.2.2.2) ∈ lotS := by rw [← eq]; exact List.mem_map_of_mem (f := fun q : List Int × Addr × Addr × List Int => (q.1, q.2.2.2)) hm
        refine ⟨q.2.2.1, q.2.2.2, rfl, sz _ _ (hq2 q hm).v, fun s hs => ?_, ?_⟩
        · have := lotS_in _ hl s hs
          rw [c1] at this
          exact this
        · have : ∀ q ∈ lotS, q.2.length ≤ 5 := by decide
          exact this _ hl
    rw [e1]
    generalize upd H2 z (.tup [.int 0]) = H3 at sz hW3 e2
    have h3 := h2.same sz
    refine ⟨sa, rfl, ⟨_, SqT.of e2⟩, for_tup (K := K) (a := sa) (xs := seats.map V.int) (fun i σ H4 => ∃ u8 ys, σ = [some (.ref d), some (.ref W.w), some (.int way), some (.int n), some (.ref F), some (.int (at_ : Nat)), some (.int kk), some (.ref p), u8, none] ∧ FwAt d l Hb H4 F ys (placesL r).length (5 + 3 * (i : Int)) ∧ H4 sa = some (.tup (seats.map V.int)))
      ⟨u8, xs, rfl, h3.wide (by omega), e2⟩ (fun i σ H4 _ ⟨_, _, _, _, q⟩ => SqT.of q) ?_ ?_⟩
    · rintro i y σ H4 hi ⟨u8', ys, rfl, h4, g4⟩
      obtain ⟨sn, rfl, hs⟩ := getI hi
      have sb := e3 sn (List.mem_of_getElem? hs)
      obtain ⟨m, rfl⟩ := Int.eq_ofNat_of_zero_le sb.1
      have ml : m < (placesL r).length := by omega
      have tp : atI (ys.map V.int) (m : Int) = some (V.int (ys.getD m 0)) := atI_nat (getD_of (by rw [h4.len]; exact ml))
      refine ⟨_, rfl, _, rfl, F, _, _, _, rfl, rfl, SqL.of h4.F, tp, _, rfl, _, _, rfl, rfl, _, rfl, _, rfl, F, _, _, m, rfl, rfl, h4.F, ?_, ?_⟩
      · rw [List.length_map, h4.len]
        exact ixN_nat ml
      · have g := (h4.set ml (k := kk) (c := 3) k1 k2 (by decide)).wide (show 5 + 3 * (i : Int) + 3 ≤ 5 + 3 * ((i + 1 : Nat) : Int) by omega)
        rw [← List.map_set]
        refine ⟨_, _, rfl, g, ?_⟩
        rw [upd_ne (ne_of g4 h4.F (by intro z; cases z))]
        exact g4
    · rintro σ H4 ⟨u8', ys, rfl, h4, g4⟩
      rw [List.length_map] at h4
      exact q7 _ d l F _ way n at_ kk _ _ Hb H4 ys _ (h4.wide (by omega)) ha h16 k
  · exact q7 _ d l F _ way n at_ kk _ _ Hb H2 xs _ (h2.wide (by omega)) ha h16 k
end
end K45

/-! The law's flat whole rows: the def. -/
namespace K45
open PySem PySem.Spec PyProof.Rows L2
section
variable {P : Program} {w : World} {K : PySem.W.Frag} {mg : Str → Option Value} {base : Heap} {f f1 f2 f3 f4 f5 : Addr} {fd fd1 fd2 fd3 fd4 fd5 : FuncData}
theorem ok_lFW (F : FnP K "_law_flat_whole" sLFlatW f fd) (B : Bl mg) (F1 : FnP K "_law_draw" sDraw f1 fd1) (g1 : mg "_law_draw" = some (.ref f1)) (G1 : FnOk P w K mg base CX0 1 f1 fd1 ["deck", "many"] spDraw)
    (F2 : FnP K "_law_pick" sPick f2 fd2) (g2 : mg "_law_pick" = some (.ref f2)) (G2 : FnOk P w K mg base CX0 2 f2 fd2 ["deck", "some"] (spPick K))
    (F3 : FnP K "_law_drawn_whole" sLDrawnW f3 fd3) (g3 : mg "_law_drawn_whole" = some (.ref f3)) (G3 : FnOk P w K mg base CX0 3 f3 fd3 ["deck", "world"] (spLDW K)) : FnOk P w K mg base CX0 4 f fd ["deck", "world"] (spLDW K) := by
  have b1 : Binds K fd1 ["deck", "many"] [] := F1.bindsN fun _ _ _ _ _ _ us hl => match us, hl with | [_, _], _ => rfl
  have b2 : Binds K fd2 ["deck", "some"] [] := F2.bindsN fun _ _ _ _ _ _ us hl => match us, hl with | [_, _], _ => rfl
  have b3 : Binds K fd3 ["deck", "world"] [] := F3.bindsN fun _ _ _ _ _ _ us hl => match us, hl with | [_, _], _ => rfl
  refine F.ok scFW (fun vs H Q E h => ?_) (fun cdv A outer s H vs Q E hr h => ?_)
  · obtain ⟨d, l, W, r, rfl, _⟩ := h
    rfl
  · obtain ⟨d, l, W, r, rfl, D, of, hW, k⟩ := h
    have hu := hu_of hr
    obtain ⟨t5, p5, q5⟩ := fw5 (P := P) (w := w) (K := K) (mg := mg) (base := base) (f := f) (cdv := cdv) (A := A) (outer := outer) (s0 := s) (H0 := H) (E := E) B hr F1 g1 G1
    refine ⟨_, PSs.nox (pss_cons (ps_par (i := 2) (j := 3) rfl scFW.nd rfl rfl (by decide) rfl rfl (pa_cons (pe_call G1 (hr.mono (by decide)) (by rfl) g1 F1.kp b1 .nil pass0 (pa_cons (pv 0) (pa_cons pe_int pa_nil))) (pa_cons (pe_callB call_len_seq (by rfl) (B "len" (by decide +kernel)) PySem.boot_len (pa_cons (pe_dget hu (pv 1) pe_str (fun _ _ => rfl)) pa_nil)) pa_nil)) rfl)
      (pss_cons (ps_if (pt_cmpR op_lt (pv 2) pe_int (nomark _)) (pss_one (ps_ret (pe_call G3 hr (by rfl) g3 F3.kp b3 .nil pass0 (pa_cons (pv 0) (pa_cons (pv 1) pa_nil))))) pss_nil)
      (pss_cons (ps_set (i := 4) scFW.nd rfl (Or.inl rfl) (pe_op op_rep (pe_lst (pa_cons (pe_op op_sub (pe_call G1 (hr.mono (by decide)) (by rfl) g1 F1.kp b1 .nil pass0 (pa_cons (pv 0) (pa_cons pe_int pa_nil))) pe_int) pa_nil)) (pv 3)))
      (pss_cons (ps_par (i := 5) (j := 6) rfl scFW.nd rfl rfl (by decide) rfl rfl (pa_cons (pe_call G1 (hr.mono (by decide)) (by rfl) g1 F1.kp b1 .nil pass0 (pa_cons (pv 0) (pa_cons (pv 3) pa_nil))) (pa_cons (pe_call G2 (hr.mono (by decide)) (by rfl) g2 F2.kp b2 .nil pass0 (pa_cons (pv 0) (pa_cons (pe_lst (pa_cons pe_int (pa_cons pe_int (pa_cons (pe_un un_neg pe_int) (pa_cons pe_int pa_nil))))) pa_nil))) pa_nil)) rfl)
      (pss_cons (ps_if (pt_cmpR op_lt (pv 2) pe_int (nomark _)) (pss_one (ps_asg (pe_op op_add (pe_ix ix_list (pv 4) (pv 5) (fun _ _ => rfl)) (pv 6)) (pg_sub (pv 4) (pv 5) set_list))) pss_nil) p5))))), ?_⟩
    have h16 := rr_pl0 r hW.rr
    have tp1 := wo_pos r hW.rr
    refine ⟨_, rfl, d, l, 7, rfl, D, by decide, by decide, fun way H1 w0 w1 D1 K1 => ?_⟩
    have hW1 := K1.wr D of hW
    obtain ⟨kp, p1, p2, p3⟩ := id hW1.P
    have kl : (rf kp).length = (placesL r).length := by rw [← p2, List.length_map, List.length_map]
    refine ⟨_, rfl, W.w, _, rfl, hW1.gP, W.P, rf kp, rfl, .inl (SqL.of p1), _, _, rfl, ?_⟩
    rw [kl]
    refine ⟨_, rfl, _, _, rfl, rfl, _, rfl, ?_⟩
    refine ite2 (fun _ => ?_) (fun _ => ?_)
    · refine ⟨_, rfl, _, rfl, d, l, W, r, rfl, D1, of, hW1, fun v xs H2 D2 K2 xl xb hv => ?_⟩
      exact k v xs H2 D2 (K1.trans K2) xl xb hv
    · refine ⟨_, rfl, d, l, 5, rfl, D1, by decide, by decide, fun x H2 x0 x1 D2 K2 => ?_⟩
      refine ⟨_, _, rfl, rfl, (by show 1 ≤ sizeLine; decide), fun z nz => ?_⟩
      have sz : Same H2 (upd H2 z (.lst [.int (x - 2)])) := same_upd nz
      refine ⟨_, rfl, z, _, _, rfl, rfl, upd_same, by omega, by omega, sl_1000 (by simp; omega), fun G nG => ?_⟩
      rw [rep_flat, Int.toNat_natCast]
      have sG := same_new (o := .lst (List.replicate (placesL r).length (V.int (x - 2)))) sz nG
      have nG2 : H2 G = none := sz.free nG
      generalize hH3 : upd (upd H2 z (.lst [.int (x - 2)])) G (.lst (List.replicate (placesL r).length (V.int (x - 2)))) = H3 at sG
      have K12 := K1.trans K2
      have h3 : FwAt d l H H3 G (List.replicate (placesL r).length (x - 2)) (placesL r).length 2 := ⟨sG.deck D2, K12.trans (Same.keeps sG), keeps_free K12 D2 nG2, off_deck D2 nG2, by rw [← hH3, upd_same, List.map_replicate], List.length_replicate, fun y hy => by rw [(List.mem_replicate.mp hy).2]; omega⟩
      clear hH3
      refine ⟨_, rfl, _, rfl, d, l, ((placesL r).length : Int), rfl, h3.D, by omega, by omega, fun y H4 y0 y1 D4 K4 => ?_⟩
      obtain ⟨j, rfl⟩ := Int.eq_ofNat_of_zero_le y0
      have jl : j < (placesL r).length := by omega
      have h4 : FwAt d l H H4 G (List.replicate (placesL r).length (x - 2)) (placesL r).length 2 := ⟨D4, h3.k.trans K4, h3.nF, h3.oF, K4 G _ h3.F h3.oF.1 h3.oF.2, h3.len, h3.bd⟩
      refine ⟨_, rfl, _, rfl, (by show 4 ≤ sizeLine; decide), fun z2 nz2 => ?_⟩
      have sz2 : Same H4 (upd H4 z2 (.lst [.int 1, .int 2, .int (-1), .int 3])) := same_upd nz2
      have oz2 := off_deck D4 nz2
      refine ⟨d, l, z2, [.int 1, .int 2, .int (-1), .int 3], rfl, D4.new nz2, upd_same, oz2.2, by decide, by decide, fun v H5 hv D5 K5 => ?_⟩
      obtain ⟨m, rfl, m1, m2⟩ : ∃ m : Int, v = .int m ∧ -3 ≤ m ∧ m ≤ 3 := by
        simp at hv
        rcases hv with rfl | rfl | rfl | rfl
        · exact ⟨1, rfl, by decide, by decide⟩
        · exact ⟨2, rfl, by decide, by decide⟩
        · exact ⟨-1, rfl, by decide, by decide⟩
        · exact ⟨3, rfl, by decide, by decide⟩
      have K45' := (Same.keeps sz2 : Keeps d l H4 _).trans K5
      have h5 : FwAt d l H H5 G (List.replicate (placesL r).length (x - 2)) (placesL r).length 2 := ⟨D5, h4.k.trans K45', h4.nF, h4.oF, K45' G _ h4.F h4.oF.1 h4.oF.2, h4.len, h4.bd⟩
      have hW5 : WrAt K H5 W r := h5.k.wr D of hW
      have fin : ∀ v ys H', DeckAt d l H' → Keeps d l H H' → ys.length = (placesL r).length → (∀ x ∈ ys, -(2 ^ 38) ≤ x ∧ x ≤ 2 ^ 38) → TupI K H' v ys → Q v H' := fun v ys H' a b c e g => k v ys H' a b c e g
      refine ⟨_, _, rfl, ?_⟩
      refine ⟨_, rfl, _, _, rfl, rfl, _, rfl, ?_⟩
      have tp : atI ((List.replicate (placesL r).length (x - 2)).map V.int) (j : Int) = some (V.int ((List.replicate (placesL r).length (x - 2)).getD j 0)) := atI_nat (getD_of (by rw [List.length_replicate]; exact jl))
      refine ite2 (fun _ => ?_) (fun _ => ?_)
      · refine ⟨_, rfl, _, rfl, G, _, _, _, rfl, rfl, SqL.of h5.F, tp, _, rfl, _, _, rfl, rfl, _, rfl, _, rfl, G, _, _, j, rfl, rfl, h5.F, ?_, ?_⟩
        · rw [List.length_map, List.length_replicate]
          exact ixN_nat jl
        · have g := h5.set jl (k := m) (c := 3) m1 m2 (by decide)
          rw [← List.map_set]
          refine q5 _ d l G W r way _ j m _ _ H _ _ _ g rfl ?_ jl h16 m1 m2 fin
          exact g.k.wr D of hW
      · exact q5 _ d l G W r way _ j m _ _ H H5 _ _ (h5.wide (by decide)) rfl hW5 jl h16 m1 m2 fin
end
end K45

/-! What the law's def needs. -/
namespace K45
open PySem PySem.Spec PyProof.Rows L2
structure Fun1G (P : Program) (w : World) (K : PySem.W.Frag) (mg : Str → Option Value) (base : Heap) (x : Str) (st : Stmt) (n : Nat) (ps : List Str) (sp : Sp) where
  a : Addr
  d : FuncData
  F : FnP K x st a d
  g : mg x = some (.ref a)
  G : FnOkG P w K mg base CX0 n a d ps sp
  b : L2.Binds K d ps []
structure Fs (P : Program) (w : World) (K : PySem.W.Frag) (mg : Str → Option Value) (base : Heap) where
  f_judge_flat : Fun1 P w K mg base "judge_flat" sJudge 10 ["rings", "whole"] (spJudge K)
  f_flat_holds : Fun1 P w K mg base "flat_holds" sFlatH 10 ["rings", "whole", "thing"] (spFlatH K)
  f_l_deck : Fun1 P w K mg base "_law_deck" sDeck 1 ["script"] (spDeck K)
  f_l_draw : Fun1 P w K mg base "_law_draw" sDraw 1 ["deck", "many"] spDraw
  f_l_pick : Fun1 P w K mg base "_law_pick" sPick 2 ["deck", "some"] (spPick K)
  f_l_small : Fun1 P w K mg base "_law_small" sLSmall 3 ["deck"] (spLSmall K)
  f_l_world : Fun1 P w K mg base "_law_world" sLWorld 6 ["rings"] (spLWorld K)
  f_l_flat_whole : Fun1 P w K mg base "_law_flat_whole" sLFlatW 4 ["deck", "world"] (spLDW K)
  f_l_counted : Fun1 P w K mg base "_law_counted" sLCounted 2 ["world", "whole"] (spLCt K)
  f_l_moved_whole : Fun1 P w K mg base "_law_moved_whole" sLMovedW 3 ["deck", "world", "whole"] (spLMW K)
  f_l_is_right : Fun1G P w K mg base "_law_is_right" sLRight 9 ["world", "whole", "told", "flat"] (spLRt K)
theorem kb_judge {K : PySem.W.Frag} {f : Addr} {fd : FuncData} (F : FnP K "judge_flat" sJudge f fd) : KBinds K fd ["rings", "whole"] ["whole", "rings"] g2 g2V := by
  refine ⟨fun s us ws KX hl => ?_, fun r rz => g2_rel r rz⟩
  obtain ⟨oc, od, dV, kV, doc, pm, an, cdv, ct, osl, rfl, lk, hcd, hD, hK⟩ := F.ex
  rcases hD with ⟨_, rfl⟩ | ⟨e, _⟩
  · match us, ws, hl with
    | [], [p, l], _ => exact .of_eq rfl
    | [], [], h => exact absurd h (by decide)
    | [], [_], h => exact absurd h (by show ¬ (0 : Nat) = 2; decide)
    | [], _ :: _ :: _ :: _, h => exact absurd h (by show ¬ (0 : Nat) = 2; decide)
    | _ :: _, _, h => exact absurd h (by show ¬ (0 : Nat) = 2; decide)
  · exact absurd rfl e
def forBody : Stmt → List Stmt
  | .For _ _ b _ _ => b
  | _ => []
abbrev lawB : List Stmt := defBody sLaw
abbrev turnB : List Stmt := forBody (lawB.getD 1 (.Pass ⟨0, 0, 0, 0⟩))
abbrev lawN : List Str := ["script", "deck", "turn", "rings", "world", "whole", "counts", "flat", "told", "k", "more", "near", "last", "x", "it"]
theorem lawB_len : lawB.length = 3 := by kernel_rfl
theorem turnB_len : turnB.length = 13 := by kernel_rfl
theorem scLaw : FnScope lawN ["script"] (defScope sLaw) := ⟨rfl, rfl, rfl, by decide +kernel, rfl, by decide +kernel, by decide +kernel⟩
theorem seq_ifc {c : TT} {t u v : L2.TS} {D : Ends} {σ : L2.St} {H : Hp} (h : c σ H fun b H1 => if b = true then t { D with nx := fun σ2 H2 => v D σ2 H2 } σ H1 else u { D with nx := fun σ2 H2 => v D σ2 H2 } σ H1) : tSeq (tIfS c t u) v D σ H := h
theorem last_ifc {c : TT} {t u : L2.TS} {D : Ends} {σ : L2.St} {H : Hp} (h : c σ H fun b H1 => if b = true then t D σ H1 else u D σ H1) : tIfS c t u D σ H := h
theorem nx_seq {v : L2.TS} {D : Ends} {σ : L2.St} {H : Hp} (h : v D σ H) : tNext { D with nx := fun σ2 H2 => v D σ2 H2 } σ H := h
theorem nxp_ifc {c : TT} {t u : L2.TS} {D : Ends} {rt : VK} {b c' : L2.St → Hp → Prop} {σ : L2.St} {H : Hp} (h : c σ H fun b H1 => if b = true then t D σ H1 else u D σ H1) : (Ends.mk (tIfS c t u D) rt b c').nx σ H := h
theorem nxp_seqasg {te : TE} {g : TG} {t : L2.TS} {D : Ends} {rt : VK} {b c' : L2.St → Hp → Prop} {σ : L2.St} {H : Hp} (h : te σ H fun v H1 => g v σ H1 fun σ2 H2 => t D σ2 H2) : (Ends.mk (tSeq (tAsg te g) t D) rt b c').nx σ H := h
theorem or_op {r : R2} {ta tb : TE} {u : TT} {σ : L2.St} {H : Hp} {Q : Bool → Hp → Prop} (h : ta σ H fun x H1 => tb σ H1 fun y H2 => r x y H2 fun z H3 => ∃ k, z = .bl k ∧ (fun c H1 => if c = true then Q true H1 else u σ H1 Q) k H3) : tOr (tTest (tOp r ta tb)) u σ H Q := h
theorem test_op {r : R2} {ta tb : TE} {σ : L2.St} {H : Hp} {Q : Bool → Hp → Prop} (h : ta σ H fun x H1 => tb σ H1 fun y H2 => r x y H2 fun z H3 => ∃ k, z = .bl k ∧ Q k H3) : tTest (tOp r ta tb) σ H Q := h
structure Ct (K : PySem.W.Frag) (d l : Addr) (W : Wd) (r : List Int) (H : Hp) : Prop where
  D : DeckAt d l H
  of : W.Off d l
  W : WrAt K H W r
theorem Ct.same {K : PySem.W.Frag} {d l : Addr} {W : Wd} {r : List Int} {H H' : Hp} (h : Ct K d l W r H) (s : Same H H') : Ct K d l W r H' := ⟨s.deck h.D, h.of, s.wr h.W⟩
theorem Ct.keeps {K : PySem.W.Frag} {d l : Addr} {W : Wd} {r : List Int} {H H' : Hp} (h : Ct K d l W r H) (D : DeckAt d l H') (k : Keeps d l H H') : Ct K d l W r H' := ⟨D, h.of, k.wr h.D h.of h.W⟩
theorem if_both {c : Bool} {ta tb : TE} {σ : L2.St} {H : Hp} {Q : VK} (R : VK → Prop) (h1 : ∀ Q, R Q → ta σ H Q) (h2 : ∀ Q, R Q → tb σ H Q) (h : R Q) : if c = true then ta σ H Q else tb σ H Q := by
  split
  · exact h1 Q h
  · exact h2 Q h
/-- what judge_flat told: its kind, and the number -/
def TK (K : PySem.W.Frag) (H : Hp) (v : V) (lv : Prop) (n : Int) : Prop := (lv ∧ ∃ t, v = .ref t ∧ SqT K H t [.str "flat", .int n]) ∨ (¬ lv ∧ ∃ t x y, v = .ref t ∧ SqT K H t [.str "labels", .ref x, .ref y])
theorem TK.same {K : PySem.W.Frag} {H H' : Hp} {v : V} {lv : Prop} {n : Int} (h : TK K H v lv n) (s : Same H H') : TK K H' v lv n := by
  rcases h with ⟨a, t, rfl, q⟩ | ⟨a, t, x, y, rfl, q⟩
  · exact .inl ⟨a, t, rfl, s.tup q⟩
  · exact .inr ⟨a, t, x, y, rfl, s.tup q⟩
theorem TK.keeps {K : PySem.W.Frag} {d l : Addr} {H H' : Hp} {v : V} {lv : Prop} {n : Int} (h : TK K H v lv n) (D : DeckAt d l H) (s : Keeps d l H H') : TK K H' v lv n := by
  rcases h with ⟨a, t, rfl, q⟩ | ⟨a, t, x, y, rfl, q⟩
  · exact .inl ⟨a, t, rfl, s.sqt D q⟩
  · exact .inr ⟨a, t, x, y, rfl, s.sqt D q⟩
theorem jr_tk {K : PySem.W.Frag} {H : Hp} {v : V} {r : List Int} (h : r ∈ RR) {xs : List Int} (hl : xs.length = (placesL r).length) (j : JR K H v r xs) {lv : Prop} {n : Int} (e1 : Lev r xs ↔ lv) (e2 : Fl r xs = n) : TK K H v lv n := by
  rcases jr_kind h hl j with ⟨a, t, rfl, q⟩ | ⟨a, t, p1, p2, j, n1, nj, rfl, q, _⟩
  · rw [e2] at q
    exact .inl ⟨e1.mp a, t, rfl, q⟩
  · exact .inr ⟨fun z => a (e1.mpr z), t, p1, p2, rfl, q⟩
/-- the first item of what is told -/
theorem TK.first {K : PySem.W.Frag} {H : Hp} {v : V} {lv : Prop} {n : Int} (h : TK K H v lv n) : ∃ t x y s, v = .ref t ∧ (SqT K H t [.str s, x] ∨ SqT K H t [.str s, x, y]) ∧ ((lv ∧ s = "flat") ∨ (¬ lv ∧ s = "labels")) := by
  rcases h with ⟨a, t, rfl, q⟩ | ⟨a, t, x, y, rfl, q⟩
  · exact ⟨t, .int n, .non, _, rfl, .inl q, .inl ⟨a, rfl⟩⟩
  · exact ⟨t, .ref x, .ref y, _, rfl, .inr q, .inr ⟨a, rfl⟩⟩
def StA (a d : Addr) (σ : L2.St) : Prop := ∃ u2 u3 u4 u5 u6 u7 u8 u9 u10 u11 u12 : Option V, σ = [some (.ref a), some (.ref d), u2, u3, u4, u5, u6, u7, u8, u9, u10, u11, u12, none, none]
end K45

/-! The law: near rows. -/
namespace K45
open PySem PySem.Spec PyProof.Rows L2
theorem TK.first' {K : PySem.W.Frag} {H : Hp} {v : V} {lv : Prop} {n : Int} (h : TK K H v lv n) : ∃ t s xs, v = .ref t ∧ SqT K H t xs ∧ atI xs (0 : Int) = some (.str s) ∧ ((lv ∧ s = "flat") ∨ (¬ lv ∧ s = "labels")) := by
  rcases h with ⟨a, t, rfl, q⟩ | ⟨a, t, x, y, rfl, q⟩
  · exact ⟨t, _, _, rfl, q, rfl, .inl ⟨a, rfl⟩⟩
  · exact ⟨t, _, _, rfl, q, rfl, .inr ⟨a, rfl⟩⟩
theorem same_s {lv : Prop} {s s' : Str} (h : (lv ∧ s = "flat") ∨ (¬ lv ∧ s = "labels")) (h' : (lv ∧ s' = "flat") ∨ (¬ lv ∧ s' = "labels")) : s = s' := by
  rcases h with ⟨a, rfl⟩ | ⟨a, rfl⟩ <;> rcases h' with ⟨b, rfl⟩ | ⟨b, rfl⟩
  · rfl
  · exact absurd a b
  · exact absurd b a
  · rfl
section
variable {P : Program} {w : World} {K : PySem.W.Frag} {mg : Str → Option Value} {base : Heap} {f : Addr} {cdv : Value} {A : Around} {outer : List Env} {s0 : Shared} {H0 : Hp} {E : XK}
theorem part9 (Z : Fs P w K mg base) (B : Bl mg) (hA : A.guards = some []) (hr : Room 10 (A.deeper (envOfC "law" (defScope sLaw) s0.heap.objs.size f cdv))) :
    ∃ t, PSs (cxOf CX0 P w K mg base lawN "law" (defScope sLaw) f cdv A outer s0 H0 E).nox (turnB.drop 9) t ∧ ∀ (k : Ends) (a d l : Addr) (W : Wd) (r xs : List Int) (vr vw : V) (L : Addr) (v1 v2 vt fl : V) (kk : Int) (u2 u6 u10 u12 : Option V) (H : Hp), Ct K d l W r H → TupI K H vr r → TupI K H vw xs → xs.length = (placesL r).length → (∀ x ∈ xs, -(2 ^ 38) ≤ x ∧ x ≤ 2 ^ 38) →
      H L = some (.lst [v1, v2]) → TK K H v1 (Lev r xs) (Fl r xs) → TK K H v2 (Lev r xs) (Fl r xs) → TK K H vt (Lev r xs) (Fl r xs) → ((Lev r xs ∧ fl = .int (Fl r xs)) ∨ (¬ Lev r xs ∧ fl = .non)) → kk ≠ 0 → -3 ≤ kk → kk ≤ 3 →
      (∀ (σ' : L2.St) (H' : Hp), StA a d σ' → DeckAt d l H' → k.nx σ' H') →
      t k [some (.ref a), some (.ref d), u2, some vr, some (.ref W.w), some vw, u6, some fl, some vt, some (.int kk), u10, some (.ref L), u12, none, none] H := by
  have cr : CallR (Cx.nox (cxOf CX0 P w K mg base lawN "law" (defScope sLaw) f cdv A outer s0 H0 E)) (.builtin "repr") (rRepr K) := call_repr hA hr.units
  have hu := hu_of hr
  have hu64 := hr.units
  refine ⟨_, (pss_cons (ps_if (pt_cmpR (op_neD hu64) (pe_lc (own := [("it", 14)]) (g := gName 14) (tt := tTest (tOp rNe (tOp (rIxT K) (tVar 14) (tC (.int 0))) (tOp (rIxT K) (tVar 8) (tC (.int 0))))) (te := tVar 14) rfl scLaw.nd (pi_list (pv 11)) (blkOk_by (own := [("it", 14)]) (N := lawN) (sc := defScope sLaw) (by decide +kernel))
        (fun _ _ _ _ _ => (pg_name (i := 14) scLaw.nd rfl (Or.inl rfl))) (fun _ _ _ _ _ => pts_one (pt_cmpR op_ne (pe_ix ix_tup (pv 14) pe_int (fun _ _ => rfl)) (pe_ix ix_tup (pv 8) pe_int (fun _ _ => rfl)) (nomark _))) (fun _ _ _ _ _ => (pv 14))) (pe_lst pa_nil) (nomark _)) (pss_one (ps_ret pe_bl)) pss_nil)
      (pss_cons (ps_set (i := 12) scLaw.nd rfl (Or.inl rfl) (pe_call Z.f_judge_flat.G hr (by rfl) Z.f_judge_flat.g Z.f_judge_flat.F.kp Z.f_judge_flat.b .nil pass0 (pa_cons (pv 3) (pa_cons (pe_callTy call_tuple_of (by rfl) (B "tuple" (by decide +kernel)) (by decide +kernel) (pa_cons (pe_lc (own := [("x", 13)]) (g := gName 13) (tt := tYes) (te := tOp rMul (tVar 9) (tVar 13)) rfl scLaw.nd (pi_tup (pv 5)) (blkOk_by (own := [("x", 13)]) (N := lawN) (sc := defScope sLaw) (by decide +kernel))
        (fun _ _ _ _ _ => (pg_name (i := 13) scLaw.nd rfl (Or.inl rfl))) (fun _ _ _ _ _ => pts_nil) (fun _ _ _ _ _ => (pe_op op_mul (pv 9) (pv 13)))) pa_nil)) pa_nil))))
      (pss_cons (ps_if (PW.pt (pw_and (pt_cmpR op_notN (pv 7) pe_non (nomark _)) (pw_and1 (pt_cmpR op_ne (pe_callB cr (by rfl) (B "repr" (by decide +kernel)) (by decide +kernel) (pa_cons (pe_op op_cat (pv 11) (pe_lst (pa_cons (pv 12) pa_nil))) pa_nil)) (pe_callB cr (by rfl) (B "repr" (by decide +kernel)) (by decide +kernel) (pa_cons (pe_lst (pa_cons (pv 8) (pa_cons (pv 8) (pa_cons (pe_tup (pa_cons pe_str (pa_cons (pe_op op_mul (pe_op op_mul (pv 9) (pv 9)) (pv 7)) pa_nil))) pa_nil)))) pa_nil)) (nomark _))))) (pss_one (ps_ret pe_bl)) pss_nil)
      (pss_one (ps_if (pt_cmpR op_ne (pe_ix ix_tup (pv 12) pe_int (fun _ _ => rfl)) (pe_ix ix_tup (pv 8) pe_int (fun _ _ => rfl)) (nomark _)) (pss_one (ps_ret pe_bl)) pss_nil))))), ?_⟩
  intro k a d l W r xs vr vw L v1 v2 vt fl kk u2 u6 u10 u12 H ct hvr hvw xl xb gL t1 t2 tt hfl k0 k1 k2 fin
  have h14 := ct.W.rr
  have h16 := rr_pl0 r h14
  obtain ⟨at1, st, xst, rfl, hst, est, kst⟩ := tt.first'
  have vb : ∀ (i : Nat) (y : V), ([v1, v2] : List V)[i]? = some y → TK K H y (Lev r xs) (Fl r xs) := fun i y hy => by
    match i, hy with
    | 0, hy => rw [← Option.some.inj hy]; exact t1
    | 1, hy => rw [← Option.some.inj hy]; exact t2
    | i + 2, hy => simp at hy
  -- all of a kind
  refine seq_ifc ?_
  refine test_op ?_
  refine ⟨_, rfl, L, rfl, ⟨_, SqL.of gL⟩, fun D nD => ?_⟩
  refine lc_list (K := K) (a := L) (xs := [v1, v2]) (fun i H2 => Same H H2 ∧ H2 D = some (.lst [])) ⟨same_upd nD, upd_same⟩ (fun i H2 _ ⟨s2, _⟩ => SqL.of (s2 _ _ gL)) ?_ ?_
  · rintro i y H2 hi ⟨s2, g2⟩
    obtain ⟨ay, sy, xsy, rfl, hsy, esy, ksy⟩ := (vb i y hi).first'
    have e := same_s ksy kst
    subst e
    refine ⟨rfl, _, rfl, ay, _, 0, .str sy, rfl, rfl, s2.tup hsy, esy, _, rfl, at1, _, 0, .str sy, rfl, rfl, s2.tup hst, est, rfl, _, rfl, ?_⟩
    have ef : (!decide (V.str sy = V.str sy)) = false := by simp
    rw [ef]
    exact ⟨s2, g2⟩
  rintro H2 ⟨s2, g2⟩
  refine ⟨by decide, fun D2 nD2 => ?_⟩
  have sD : Same H2 (upd H2 D2 (.lst [])) := same_upd nD2
  refine ⟨.list [], .list [], .lst (SqL.of (sD _ _ g2)) .nil, .lst (SqL.of upd_same) .nil, by decide, by decide, _, rfl, ?_⟩
  refine ite2 (fun c => absurd c (by decide)) fun _ => ?_
  refine nx_seq ?_
  generalize upd H2 D2 (.lst []) = H3 at sD
  have s3 := s2.trans sD
  have ct3 := ct.same s3
  obtain ⟨wa, rfl, hwa⟩ := id hvw
  -- k times the row
  refine seq_asg ?_
  refine ⟨_, rfl, _, rfl, wa, rfl, ⟨_, s3.tup hwa⟩, fun M nM => ?_⟩
  refine lc_tup (K := K) (a := wa) (xs := xs.map V.int) (fun i H4 => Same H3 H4 ∧ H4 M = some (.lst (((xs.take i).map fun x => kk * x).map V.int))) ⟨same_upd nM, by rw [upd_same]; rfl⟩ (fun i H4 _ ⟨s4, _⟩ => (s3.trans s4).tup hwa) ?_ ?_
  · rintro i y H4 hi ⟨s4, g4⟩
    obtain ⟨x, rfl, hx⟩ := getI hi
    have il := ltL hx
    refine ⟨rfl, _, rfl, _, rfl, _, _, rfl, rfl, Or.inl ⟨by omega, by omega⟩, ?_⟩
    refine ⟨_, g4, sl_lt (by rw [List.length_map, List.length_map, List.length_take]; omega), same_at s4 nM, ?_⟩
    rw [upd_same, takeS hx, List.map_append, List.map_append]
    rfl
  rintro H4 ⟨s4, g4⟩
  rw [List.length_map, List.take_length] at g4
  refine ⟨M, _, rfl, .inl ⟨SqL.of g4, fun tp ntp => ?_⟩⟩
  have stp : Same H4 (upd H4 tp (.tup ((xs.map fun x => kk * x).map V.int))) := same_upd ntp
  generalize hH5 : upd H4 tp (.tup ((xs.map fun x => kk * x).map V.int)) = H5 at stp
  have gtp : H5 tp = some (.tup ((xs.map fun x => kk * x).map V.int)) := by rw [← hH5, upd_same]
  have s5 := (s3.trans s4).trans stp
  have kl : (xs.map fun x => kk * x).length = (placesL r).length := by rw [List.length_map, xl]
  have kb : ∀ x ∈ xs.map (fun x => kk * x), -(2 ^ 40) ≤ x ∧ x ≤ 2 ^ 40 := fun x hx => by
    obtain ⟨y, hy, rfl⟩ := List.mem_map.mp hx
    have := xb y hy
    have e : kk = -3 ∨ kk = -2 ∨ kk = -1 ∨ kk = 1 ∨ kk = 2 ∨ kk = 3 := by omega
    rcases e with rfl | rfl | rfl | rfl | rfl | rfl <;> omega
  refine ⟨vr, .ref tp, r, xs.map fun x => kk * x, rfl, s5.tupI hvr, ⟨tp, rfl, SqT.of gtp⟩, h14, wh_ok h14 kl kb, fun v3 H6 s6 jr => ?_⟩
  obtain ⟨lm1, lm2⟩ := lev_mul h14 xl k0
  have t3 : TK K H6 v3 (Lev r xs) (kk * kk * Fl r xs) := jr_tk h14 kl jr lm1 lm2
  have s06 := s5.trans s6
  refine set_ok ?_
  have last : ∀ (H7 : Hp), Same H6 H7 → DeckAt d l H7 := fun H7 s7 => (ct.same (s06.trans s7)).D
  obtain ⟨a3, s3', xs3, rfl, hs3, es3, ks3⟩ := t3.first'
  have e3 := same_s ks3 kst
  subst e3
  -- the numbers
  have end12 : ∀ (H7 : Hp), Same H6 H7 → k.nx [some (.ref a), some (.ref d), u2, some vr, some (.ref W.w), some (.ref wa), u6, some fl, some (.ref at1), some (.int kk), u10, some (.ref L), some (.ref a3), none, none] H7 := fun H7 s7 => fin _ H7 ⟨_, _, _, _, _, _, _, _, _, _, _, rfl⟩ (last H7 s7)
  have end12' : ∀ (H7 : Hp), Same H6 H7 → ∀ Q : Bool → Hp → Prop, Q false H7 → tTest (tOp rNe (tOp (rIxT K) (tVar 12) (tC (.int 0))) (tOp (rIxT K) (tVar 8) (tC (.int 0)))) [some (.ref a), some (.ref d), u2, some vr, some (.ref W.w), some (.ref wa), u6, some fl, some (.ref at1), some (.int kk), u10, some (.ref L), some (.ref a3), none, none] H7 Q := fun H7 s7 Q hq => by
    refine test_op ?_
    refine ⟨_, rfl, a3, _, 0, .str s3', rfl, rfl, s7.tup hs3, es3, _, rfl, at1, _, 0, .str s3', rfl, rfl, (s06.trans s7).tup hst, est, rfl, _, rfl, ?_⟩
    have ef : (!decide (V.str s3' = V.str s3')) = false := by simp
    rw [ef]
    exact hq
  refine seq_ifc ?_
  rcases hfl with ⟨lv, rfl⟩ | ⟨nlv, rfl⟩
  · have tf : ∀ {v : V} {n : Int} {H' : Hp}, TK K H' v (Lev r xs) n → ∃ t, v = .ref t ∧ SqT K H' t [.str "flat", .int n] := fun h => by
      rcases h with ⟨_, q⟩ | ⟨q, _⟩
      · exact q
      · exact absurd lv q
    obtain ⟨b1, rfl, h1⟩ := tf t1
    obtain ⟨b2, rfl, h2⟩ := tf t2
    obtain ⟨b3, e3, h3⟩ := tf t3
    cases e3
    obtain ⟨b4, e4, h4⟩ := tf tt
    cases e4
    have fa := fl_abs h14 xl (fun x hx => by have := xb x hx; omega)
    have fa1 : (Fl r xs).natAbs < 2 ^ 150 := Nat.lt_of_le_of_lt fa (by decide)
    have fa2 : (kk * kk * Fl r xs).natAbs < 2 ^ 150 := by
      rw [Int.natAbs_mul]
      have c : (kk * kk).natAbs ≤ 9 := by
        have e : kk = -3 ∨ kk = -2 ∨ kk = -1 ∨ kk = 1 ∨ kk = 2 ∨ kk = 3 := by omega
        rcases e with rfl | rfl | rfl | rfl | rfl | rfl <;> decide
      exact Nat.lt_of_le_of_lt (Nat.mul_le_mul c fa) (by decide)
    have okN : OkD 40 50000 (.list [flD (Fl r xs), flD (Fl r xs), flD (kk * kk * Fl r xs)]) := (okd_lst (dp := 2) (bl := 20) (n := 3) (ds := [flD (Fl r xs), flD (Fl r xs), flD (kk * kk * Fl r xs)]) (fun d hd => by
      rcases List.mem_cons.mp hd with rfl | hd
      · exact okd_fl fa1
      · rcases List.mem_cons.mp hd with rfl | hd
        · exact okd_fl fa1
        · rw [List.mem_singleton.mp hd]
          exact okd_fl fa2) (Nat.le_refl 3)).le (by decide) (by decide)
    refine ⟨_, rfl, rfl, _, rfl, ?_⟩
    refine ite2 (fun _ => ?_) (fun c => absurd (by
      have n : V.int (Fl r xs) ≠ V.non := fun z => by cases z
      simp [n]) c)
    refine test_op ?_
    refine cb1_ok ?_
    refine ⟨_, rfl, _, rfl, (by show 1 ≤ sizeLine; decide), fun z nz => ?_⟩
    have sz : Same H6 (upd H6 z (.lst [.ref a3])) := same_upd nz
    have gz : upd H6 z (.lst [.ref a3]) z = some (.lst [.ref a3]) := upd_same
    generalize upd H6 z (.lst [.ref a3]) = H7 at sz gz
    refine ⟨L, z, [.ref b1, .ref b2], [.ref a3], rfl, rfl, (s06.trans sz) _ _ gL, gz, (by show 3 ≤ sizeLine; decide), fun p np => ?_⟩
    have sp : Same H7 (upd H7 p (.lst ([.ref b1, .ref b2] ++ [.ref a3]))) := same_upd np
    have gp : upd H7 p (.lst ([.ref b1, .ref b2] ++ [.ref a3])) p = some (.lst [.ref b1, .ref b2, .ref a3]) := upd_same
    generalize upd H7 p (.lst ([.ref b1, .ref b2] ++ [.ref a3])) = H8 at sp gp
    have s68 := sz.trans sp
    have s08 := s06.trans s68
    refine rep_ok (d := .list [flD (Fl r xs), flD (Fl r xs), flD (kk * kk * Fl r xs)]) (.lst (SqL.of gp) (.cons (fl_dp (s08.tup h1)) (.cons (fl_dp (s08.tup h2)) (.cons (fl_dp (s68.tup h3)) .nil)))) okN ?_
    refine cb1_ok ?_
    refine ⟨_, rfl, _, rfl, _, rfl, _, rfl, _, _, rfl, rfl, Or.inl ⟨by omega, by omega⟩, _, rfl, _, _, rfl, rfl, Or.inl ?_, (by show 2 ≤ sizeLine; decide), fun t nt => ?_⟩
    · have e : kk = -3 ∨ kk = -2 ∨ kk = -1 ∨ kk = 1 ∨ kk = 2 ∨ kk = 3 := by omega
      rcases e with rfl | rfl | rfl | rfl | rfl | rfl <;> exact ⟨by decide, by decide⟩
    have st : Same H8 (upd H8 t (.tup [.str "flat", .int (kk * kk * Fl r xs)])) := same_upd nt
    have gt : upd H8 t (.tup [.str "flat", .int (kk * kk * Fl r xs)]) t = some (.tup [.str "flat", .int (kk * kk * Fl r xs)]) := upd_same
    generalize upd H8 t (.tup [.str "flat", .int (kk * kk * Fl r xs)]) = H9 at st gt
    refine ⟨(by show 3 ≤ sizeLine; decide), fun y ny => ?_⟩
    have sy : Same H9 (upd H9 y (.lst [.ref at1, .ref at1, .ref t])) := same_upd ny
    have gy : upd H9 y (.lst [.ref at1, .ref at1, .ref t]) y = some (.lst [.ref at1, .ref at1, .ref t]) := upd_same
    generalize upd H9 y (.lst [.ref at1, .ref at1, .ref t]) = H10 at sy gy
    have s8a := st.trans sy
    have s6a := s68.trans s8a
    refine rep_ok (d := .list [flD (Fl r xs), flD (Fl r xs), flD (kk * kk * Fl r xs)]) (.lst (SqL.of gy) (.cons (fl_dp ((s06.trans s6a).tup h4)) (.cons (fl_dp ((s06.trans s6a).tup h4)) (.cons (fl_dp (SqT.of (sy _ _ gt))) .nil)))) okN ?_
    refine ne_same ?_
    refine ite2 (fun c => absurd c (by decide)) fun _ => ?_
    refine nx_seq ?_
    refine last_ifc ?_
    refine end12' H10 s6a _ ?_
    refine ite2 (fun c => absurd c (by decide)) fun _ => ?_
    exact end12 _ s6a
  · refine ⟨_, rfl, rfl, _, rfl, ?_⟩
    refine ite2 (fun c => absurd c (by decide)) fun _ => ?_
    refine ite2 (fun c => absurd c (by decide)) fun _ => ?_
    refine nx_seq ?_
    refine last_ifc ?_
    refine end12' H6 (Same.refl _) _ ?_
    refine ite2 (fun c => absurd c (by decide)) fun _ => ?_
    exact end12 _ (Same.refl _)
end
end K45

/-! The law: moved and raised rows. -/
namespace K45
open PySem PySem.Spec PyProof.Rows L2
theorem mwL_bd {r b : List Int} {k sg : Int} {xs : List Int} {M : Int} (hs : sg = 1 ∨ sg = -1) (hM : 0 ≤ M) (hb : ∀ x ∈ xs, -M ≤ x ∧ x ≤ M) : ∀ m, m ≤ xs.length → ∀ x ∈ mwL r b k sg xs m, -M ≤ x ∧ x ≤ M
  | 0, _, x, hx => by
    rw [(List.mem_replicate.mp hx).2]
    omega
  | m + 1, hm, x, hx => by
    rcases List.mem_or_eq_of_mem_set hx with z | z
    · exact mwL_bd hs hM hb m (by omega) x z
    · have g := getD_bd hb (show m < xs.length by omega)
      rw [z]
      rcases hs with rfl | rfl <;> omega
section
variable {P : Program} {w : World} {K : PySem.W.Frag} {mg : Str → Option Value} {base : Heap} {f : Addr} {cdv : Value} {A : Around} {outer : List Env} {s0 : Shared} {H0 : Hp} {E : XK}
theorem part7 (Z : Fs P w K mg base) (B : Bl mg) (hA : A.guards = some []) (hr : Room 10 (A.deeper (envOfC "law" (defScope sLaw) s0.heap.objs.size f cdv))) :
    ∃ t, PSs (cxOf CX0 P w K mg base lawN "law" (defScope sLaw) f cdv A outer s0 H0 E).nox (turnB.drop 7) t ∧ ∀ (k : Ends) (a d l : Addr) (W : Wd) (r xs : List Int) (vr vw vt fl : V) (u2 u6 u9 u10 u11 u12 : Option V) (H : Hp), Ct K d l W r H → TupI K H vr r → TupI K H vw xs → xs.length = (placesL r).length → (∀ x ∈ xs, -(2 ^ 38) ≤ x ∧ x ≤ 2 ^ 38) →
      TK K H vt (Lev r xs) (Fl r xs) → ((Lev r xs ∧ fl = .int (Fl r xs)) ∨ (¬ Lev r xs ∧ fl = .non)) →
      (∀ (σ' : L2.St) (H' : Hp), StA a d σ' → DeckAt d l H' → k.nx σ' H') →
      t k [some (.ref a), some (.ref d), u2, some vr, some (.ref W.w), some vw, u6, some fl, some vt, u9, u10, u11, u12, none, none] H := by
  have hu := hu_of hr
  obtain ⟨t9, p9, q9⟩ := part9 (P := P) (w := w) (K := K) (mg := mg) (base := base) (f := f) (cdv := cdv) (A := A) (outer := outer) (s0 := s0) (H0 := H0) (E := E) Z B hA hr
  refine ⟨_, (pss_cons (ps_asg (pe_tup (pa_cons (pe_call Z.f_l_pick.G (hr.mono (by decide)) (by rfl) Z.f_l_pick.g Z.f_l_pick.F.kp Z.f_l_pick.b .nil pass0 (pa_cons (pv 1) (pa_cons (pe_lst (pa_cons (pe_un un_neg pe_int) (pa_cons pe_int (pa_cons pe_int (pa_cons (pe_un un_neg pe_int) pa_nil))))) pa_nil))) (pa_cons (pe_op op_sub (pe_call Z.f_l_draw.G (hr.mono (by decide)) (by rfl) Z.f_l_draw.g Z.f_l_draw.F.kp Z.f_l_draw.b .nil pass0 (pa_cons (pv 1) (pa_cons pe_int pa_nil))) pe_int) pa_nil))) (pg_tup rfl (pgs_cons (pg_name (i := 9) scLaw.nd rfl (Or.inr rfl)) (pgs_cons (pg_name (i := 10) scLaw.nd rfl (Or.inr rfl)) pgs_nil))))
      (pss_cons (ps_set (i := 11) scLaw.nd rfl (Or.inl rfl) (pe_lst (pa_cons (pe_call Z.f_judge_flat.G hr (by rfl) Z.f_judge_flat.g Z.f_judge_flat.F.kp Z.f_judge_flat.b .nil pass0 (pa_cons (pv 3) (pa_cons (pe_call Z.f_l_moved_whole.G (hr.mono (by decide)) (by rfl) Z.f_l_moved_whole.g Z.f_l_moved_whole.F.kp Z.f_l_moved_whole.b .nil pass0 (pa_cons (pv 1) (pa_cons (pv 4) (pa_cons (pv 5) pa_nil)))) pa_nil))) (pa_cons (pe_call Z.f_judge_flat.G hr (by rfl) Z.f_judge_flat.g Z.f_judge_flat.F.kp Z.f_judge_flat.b .nil pass0 (pa_cons (pv 3) (pa_cons (pe_callTy call_tuple_of (by rfl) (B "tuple" (by decide +kernel)) (by decide +kernel) (pa_cons (pe_lc (own := [("x", 13)]) (g := gName 13) (tt := tYes) (te := tOp rPlus (tVar 13) (tVar 10)) rfl scLaw.nd (pi_tup (pv 5)) (blkOk_by (own := [("x", 13)]) (N := lawN) (sc := defScope sLaw) (by decide +kernel))
        (fun _ _ _ _ _ => (pg_name (i := 13) scLaw.nd rfl (Or.inl rfl))) (fun _ _ _ _ _ => pts_nil) (fun _ _ _ _ _ => (pe_op op_add (pv 13) (pv 10)))) pa_nil)) pa_nil))) pa_nil))))
      p9)), ?_⟩
  intro k a d l W r xs vr vw vt fl u2 u6 u9 u10 u11 u12 H ct hvr hvw xl xb tt hfl fin
  have h14 := ct.W.rr
  have h16 := rr_pl0 r h14
  -- k, more
  refine seq_asg ?_
  refine ⟨_, rfl, _, rfl, _, rfl, (by show 4 ≤ sizeLine; decide), fun z nz => ?_⟩
  have oz := off_deck ct.D nz
  have sz : Same H (upd H z (.lst [.int (-1), .int 2, .int 3, .int (-2)])) := same_upd nz
  refine ⟨d, l, z, [.int (-1), .int 2, .int 3, .int (-2)], rfl, ct.D.new nz, upd_same, oz.2, by decide, by decide, fun v H1 hv D1 K1 => ?_⟩
  obtain ⟨kk, rfl, k0, k1, k2⟩ : ∃ m : Int, v = .int m ∧ m ≠ 0 ∧ -3 ≤ m ∧ m ≤ 3 := by
    simp at hv
    rcases hv with rfl | rfl | rfl | rfl
    · exact ⟨-1, rfl, by decide, by decide, by decide⟩
    · exact ⟨2, rfl, by decide, by decide, by decide⟩
    · exact ⟨3, rfl, by decide, by decide, by decide⟩
    · exact ⟨-2, rfl, by decide, by decide, by decide⟩
  have K01 : Keeps d l H H1 := (Same.keeps sz).trans K1
  refine ⟨_, rfl, d, l, 9, rfl, D1, by decide, by decide, fun y H2 y0 y1 D2 K2 => ⟨_, _, rfl, rfl, (by show 2 ≤ sizeLine; decide), fun t nt => ?_⟩⟩
  have st : Same H2 (upd H2 t (.tup [.int kk, .int (y - 4)])) := same_upd nt
  have K03 : Keeps d l H (upd H2 t (.tup [.int kk, .int (y - 4)])) := (K01.trans K2).trans (Same.keeps st)
  have D3 := st.deck D2
  refine ⟨t, _, rfl, SqT.of upd_same, rfl, _, _, rfl, _, _, rfl, rfl, ?_⟩
  generalize upd H2 t (.tup [.int kk, .int (y - 4)]) = H3 at st K03 D3
  have ct3 := ct.keeps D3 K03
  have hvr3 := K03.tupI ct.D hvr
  have hvw3 := K03.tupI ct.D hvw
  -- near
  refine seq_asg ?_
  refine ⟨_, rfl, _, rfl, _, rfl, _, rfl, d, l, W, vw, r, xs, rfl, D3, ct3.of, ct3.W, hvw3, xl, fun m1 b kb sg H4 D4 K4 hb hk hs hm1 => ?_⟩
  have ct4 := ct3.keeps D4 K4
  have hvr4 := K4.tupI D3 hvr3
  have hvw4 := K4.tupI D3 hvw3
  have ml := mwL_len r b kb sg xs (placesL r).length
  have mb : ∀ x ∈ mwL r b kb sg xs (placesL r).length, -(2 ^ 40) ≤ x ∧ x ≤ 2 ^ 40 := fun x hx => by
    have := mwL_bd hs (M := 2 ^ 38) (by decide) xb _ (by omega) x hx
    omega
  refine ⟨vr, m1, r, mwL r b kb sg xs (placesL r).length, rfl, hvr4, hm1, h14, wh_ok h14 ml mb, fun w1 H5 s5 jr1 => ?_⟩
  obtain ⟨lw1, lw2⟩ := lev_of_ct (r := r) (ct_mw h14 hb hk hs xs)
  have tk1 : TK K H5 w1 (Lev r xs) (Fl r xs) := jr_tk h14 ml jr1 lw1 lw2
  have ct5 := ct4.same s5
  have hvr5 := s5.tupI hvr4
  obtain ⟨wa, rfl, hwa⟩ := id (s5.tupI hvw4)
  refine ⟨_, rfl, _, rfl, wa, rfl, ⟨_, hwa⟩, fun M nM => ?_⟩
  refine lc_tup (K := K) (a := wa) (xs := xs.map V.int) (fun i H6 => Same H5 H6 ∧ H6 M = some (.lst (((xs.take i).map fun x => x + (y - 4)).map V.int))) ⟨same_upd nM, by rw [upd_same]; rfl⟩ (fun i H6 _ ⟨s6, _⟩ => s6.tup hwa) ?_ ?_
  · rintro i v H6 hi ⟨s6, g6⟩
    obtain ⟨x, rfl, hx⟩ := getI hi
    have il := ltL hx
    refine ⟨rfl, _, rfl, _, rfl, _, _, rfl, rfl, ?_⟩
    refine ⟨_, g6, sl_lt (by rw [List.length_map, List.length_map, List.length_take]; omega), same_at s6 nM, ?_⟩
    rw [upd_same, takeS hx, List.map_append, List.map_append]
    rfl
  rintro H6 ⟨s6, g6⟩
  rw [List.length_map, List.take_length] at g6
  refine ⟨M, _, rfl, .inl ⟨SqL.of g6, fun tp ntp => ?_⟩⟩
  have stp : Same H6 (upd H6 tp (.tup ((xs.map fun x => x + (y - 4)).map V.int))) := same_upd ntp
  generalize hH7 : upd H6 tp (.tup ((xs.map fun x => x + (y - 4)).map V.int)) = H7 at stp
  have gtp : H7 tp = some (.tup ((xs.map fun x => x + (y - 4)).map V.int)) := by rw [← hH7, upd_same]
  have s57 := s6.trans stp
  have al : (xs.map fun x => x + (y - 4)).length = (placesL r).length := by rw [List.length_map, xl]
  have ab : ∀ x ∈ xs.map (fun x => x + (y - 4)), -(2 ^ 40) ≤ x ∧ x ≤ 2 ^ 40 := fun x hx => by
    obtain ⟨u, hu, rfl⟩ := List.mem_map.mp hx
    have := xb u hu
    omega
  refine ⟨vr, .ref tp, r, xs.map fun x => x + (y - 4), rfl, s57.tupI hvr5, ⟨tp, rfl, SqT.of gtp⟩, h14, wh_ok h14 al ab, fun w2 H8 s8 jr2 => ?_⟩
  obtain ⟨la1, la2⟩ := lev_add h14 xl (y - 4)
  have tk2 : TK K H8 w2 (Lev r xs) (Fl r xs) := jr_tk h14 al jr2 la1 la2
  refine ⟨(by show 2 ≤ sizeLine; decide), fun L nL => ?_⟩
  have sL : Same H8 (upd H8 L (.lst [w1, w2])) := same_upd nL
  have s58 := (s57.trans s8).trans sL
  refine set_ok ?_
  have tt9 : TK K (upd H8 L (.lst [w1, w2])) vt (Lev r xs) (Fl r xs) := ((tt.keeps ct.D K03).keeps D3 K4).same (s5.trans s58)
  exact q9 k a d l W r xs vr (.ref wa) L w1 w2 vt fl kk _ _ _ _ _ (ct5.same s58) (s58.tupI hvr5) ⟨wa, rfl, s58.tup hwa⟩ xl xb upd_same (tk1.same s58) (tk2.same sL) tt9 hfl k0 k1 k2 fin
end
end K45

/-! The law: what is told. -/
namespace K45
open PySem PySem.Spec PyProof.Rows L2
section
variable {P : Program} {w : World} {K : PySem.W.Frag} {mg : Str → Option Value} {base : Heap} {f : Addr} {cdv : Value} {A : Around} {outer : List Env} {s0 : Shared} {H0 : Hp} {E : XK}
theorem part5 (Z : Fs P w K mg base) (B : Bl mg) (hA : A.guards = some []) (hr : Room 10 (A.deeper (envOfC "law" (defScope sLaw) s0.heap.objs.size f cdv))) :
    ∃ t, PSs (cxOf CX0 P w K mg base lawN "law" (defScope sLaw) f cdv A outer s0 H0 E).nox (turnB.drop 5) t ∧ ∀ (k : Ends) (a d l : Addr) (W : Wd) (r xs : List Int) (vr vw fl : V) (g : Int) (u6 u8 u9 u10 u11 u12 : Option V) (H : Hp), Ct K d l W r H → TupI K H vr r → TupI K H vw xs → xs.length = (placesL r).length → (∀ x ∈ xs, -(2 ^ 38) ≤ x ∧ x ≤ 2 ^ 38) →
      ((Lev r xs ∧ fl = .int (Fl r xs)) ∨ (¬ Lev r xs ∧ fl = .non)) →
      (∀ (σ' : L2.St) (H' : Hp), StA a d σ' → DeckAt d l H' → k.nx σ' H') →
      t k [some (.ref a), some (.ref d), some (.int g), some vr, some (.ref W.w), some vw, u6, some fl, u8, u9, u10, u11, u12, none, none] H := by
  have hu := hu_of hr
  obtain ⟨t7, p7, q7⟩ := part7 (P := P) (w := w) (K := K) (mg := mg) (base := base) (f := f) (cdv := cdv) (A := A) (outer := outer) (s0 := s0) (H0 := H0) (E := E) Z B hA hr
  refine ⟨_, (pss_cons (ps_set (i := 8) scLaw.nd rfl (Or.inr rfl) (pe_ifExp (pt_cmpR op_eq (pv 2) pe_int (nomark _)) (pe_call Z.f_judge_flat.G hr (by rfl) Z.f_judge_flat.g Z.f_judge_flat.F.kp Z.f_judge_flat.b .nil pass0 (pa_cons (pv 3) (pa_cons (pv 5) pa_nil))) (pe_callK0 Z.f_judge_flat.G hr (by rfl) Z.f_judge_flat.g Z.f_judge_flat.F.kp (kb_judge Z.f_judge_flat.F) pass0 (pk_cons (pv 5) (pk_cons (pv 3) pk_nil)))))
      (pss_cons (ps_if (PW.pt (pw_or (pt_not (pt_val (pe_callG Z.f_l_is_right.G hA (hr.mono (by decide)) (by rfl) Z.f_l_is_right.g Z.f_l_is_right.F.kp Z.f_l_is_right.b pass0 (pa_cons (pv 4) (pa_cons (pv 5) (pa_cons (pv 8) (pa_cons (pv 7) pa_nil))))))) (pw_or1 (pt_cmpR op_notBl (pe_call Z.f_flat_holds.G hr (by rfl) Z.f_flat_holds.g Z.f_flat_holds.F.kp Z.f_flat_holds.b .nil pass0 (pa_cons (pv 3) (pa_cons (pv 5) (pa_cons (pv 8) pa_nil)))) pe_bl (nomark _))))) (pss_one (ps_ret pe_bl)) pss_nil)
      p7)), ?_⟩
  intro k a d l W r xs vr vw fl g u6 u8 u9 u10 u11 u12 H ct hvr hvw xl xb hfl fin
  have h14 := ct.W.rr
  have xb40 : ∀ x ∈ xs, -(2 ^ 40) ≤ x ∧ x ≤ 2 ^ 40 := fun x hx => by have := xb x hx; omega
  have wo := wh_ok h14 xl xb40
  have told : ∀ (Q1 : VK), (∀ v H1, Same H H1 → JR K H1 v r xs → Q1 v H1) → spJudge K [vr, vw] H Q1 E0 := fun Q1 q => ⟨_, _, r, xs, rfl, hvr, hvw, h14, wo, fun v H1 s1 jr => q v H1 s1 jr⟩
  refine seq_asg ?_
  refine ⟨_, rfl, rfl, _, rfl, ?_⟩
  refine if_both (fun Q1 => ∀ v H1, Same H H1 → JR K H1 v r xs → Q1 v H1) (fun Q1 q => ⟨_, rfl, _, rfl, told Q1 q⟩) (fun Q1 q => ⟨_, rfl, _, rfl, told Q1 q⟩) fun vt H1 s1 jr => ?_
  refine set_ok ?_
  have ct1 := ct.same s1
  refine seq_ifc ?_
  refine ⟨_, rfl, _, rfl, _, rfl, _, rfl, W, vw, vt, fl, r, xs, rfl, ct1.W, s1.tupI hvw, xl, xb40, jr, hfl, fun H2 s2 => ⟨_, rfl, ?_⟩⟩
  refine ite2 (fun c => absurd c (by decide)) fun _ => ?_
  refine test_op ?_
  have s02 := s1.trans s2
  refine ⟨_, rfl, _, rfl, _, rfl, vr, vw, vt, r, xs, rfl, s02.tupI hvr, s02.tupI hvw, h14, wo, flatI_of h14 xl, jr.same s2, fun H3 s3 => ⟨true, true, rfl, rfl, _, rfl, ?_⟩⟩
  refine ite2 (fun c => absurd c (by decide)) fun _ => ?_
  refine nx_seq ?_
  have s03 := s02.trans s3
  exact q7 k a d l W r xs vr vw vt fl _ _ _ _ _ _ H3 (ct.same s03) (s03.tupI hvr) (s03.tupI hvw) xl xb (jr_tk h14 xl (jr.same (s2.trans s3)) Iff.rfl rfl) hfl fin
end
end K45

namespace K45
open PySem PySem.Spec PyProof.Rows L2
/-! ### the law's def, where nothing is being shown -/
def spLaw (K : PySem.W.Frag) : Sp := fun vs H Q _ => ∃ (a : Addr) (ns : List Int), vs = [.ref a] ∧ SqL K H a (ns.map V.int) ∧ ns.length ≤ 63 ∧ ∀ H', Q (.bl true) H'
def someR : List (List Int) := [[7], [7], [13], [11], [4]]
theorem some_in : ∀ r ∈ someR, r ∈ RR := by decide +kernel
/-- the counts other than the first's neighbour's -/
def othL (r xs : List Int) : List Int := ((ctL r xs).drop 1).filter fun x => decide (x ≠ (ctL r xs).getD 1 0)
theorem oth_nil {r xs : List Int} : othL r xs = [] ↔ Lev r xs := by
  unfold othL
  rw [List.filter_eq_nil_iff]
  refine ⟨fun h i i1 hi => ?_, fun h x hx => ?_⟩
  · have e : ((ctL r xs).drop 1)[i - 1]? = some ((ctL r xs).getD i 0) := by
      rw [List.getElem?_drop, show 1 + (i - 1) = i by omega, List.getD_eq_getElem?_getD, List.getElem?_eq_getElem (by rw [ctL_len]; exact hi)]
      rfl
    have := h _ (List.mem_of_getElem? e)
    simpa using this
  · obtain ⟨i, hi⟩ := List.getElem?_of_mem hx
    rw [List.getElem?_drop] at hi
    have il := ltL hi
    rw [ctL_len] at il
    have := h (1 + i) (by omega) il
    rw [List.getD_eq_getElem?_getD, hi] at this
    have this : x = (ctL r xs).getD 1 0 := this
    simp [this]
section
variable {P : Program} {w : World} {K : PySem.W.Frag} {mg : Str → Option Value} {base : Heap} {f : Addr} {fd : FuncData}
theorem part0 {cdv : Value} {A : Around} {outer : List Env} {s0 : Shared} {H0 : Hp} {E : XK} (Z : Fs P w K mg base) (B : Bl mg) (hA : A.guards = some []) (hr : Room 10 (A.deeper (envOfC "law" (defScope sLaw) s0.heap.objs.size f cdv))) :
    ∃ t, PSs (cxOf CX0 P w K mg base lawN "law" (defScope sLaw) f cdv A outer s0 H0 E).nox turnB t ∧ ∀ (k : Ends) (a d l : Addr) (g : Int) (u3 u4 u5 u6 u7 u8 u9 u10 u11 u12 : Option V) (H : Hp), DeckAt d l H →
      (∀ (σ' : L2.St) (H' : Hp), StA a d σ' → DeckAt d l H' → k.nx σ' H') →
      t k [some (.ref a), some (.ref d), some (.int g), u3, u4, u5, u6, u7, u8, u9, u10, u11, u12, none, none] H := by
  have hu := hu_of hr
  have hu64 := hr.units
  obtain ⟨t5, p5, q5⟩ := part5 (P := P) (w := w) (K := K) (mg := mg) (base := base) (f := f) (cdv := cdv) (A := A) (outer := outer) (s0 := s0) (H0 := H0) (E := E) Z B hA hr
  refine ⟨_, (pss_cons (ps_set (i := 3) scLaw.nd rfl (Or.inl rfl) (pe_ifExp (pt_cmpR op_gt (pe_call Z.f_l_draw.G (hr.mono (by decide)) (by rfl) Z.f_l_draw.g Z.f_l_draw.F.kp Z.f_l_draw.b .nil pass0 (pa_cons (pv 1) (pa_cons pe_int pa_nil))) pe_int (nomark _)) (pe_call Z.f_l_small.G (hr.mono (by decide)) (by rfl) Z.f_l_small.g Z.f_l_small.F.kp Z.f_l_small.b .nil pass0 (pa_cons (pv 1) pa_nil)) (pe_call Z.f_l_pick.G (hr.mono (by decide)) (by rfl) Z.f_l_pick.g Z.f_l_pick.F.kp Z.f_l_pick.b .nil pass0 (pa_cons (pv 1) (pa_cons (pe_lst (pa_cons (pe_tup (pa_cons pe_int pa_nil)) (pa_cons (pe_tup (pa_cons pe_int pa_nil)) (pa_cons (pe_tup (pa_cons pe_int pa_nil)) (pa_cons (pe_tup (pa_cons pe_int pa_nil)) (pa_cons (pe_tup (pa_cons pe_int pa_nil)) pa_nil)))))) pa_nil)))))
      (pss_cons (ps_set (i := 4) scLaw.nd rfl (Or.inl rfl) (pe_call Z.f_l_world.G (hr.mono (by decide)) (by rfl) Z.f_l_world.g Z.f_l_world.F.kp Z.f_l_world.b .nil pass0 (pa_cons (pv 3) pa_nil)))
      (pss_cons (ps_set (i := 5) scLaw.nd rfl (Or.inl rfl) (pe_call Z.f_l_flat_whole.G (hr.mono (by decide)) (by rfl) Z.f_l_flat_whole.g Z.f_l_flat_whole.F.kp Z.f_l_flat_whole.b .nil pass0 (pa_cons (pv 1) (pa_cons (pv 4) pa_nil))))
      (pss_cons (ps_set (i := 6) scLaw.nd rfl (Or.inr rfl) (pe_call Z.f_l_counted.G (hr.mono (by decide)) (by rfl) Z.f_l_counted.g Z.f_l_counted.F.kp Z.f_l_counted.b .nil pass0 (pa_cons (pv 4) (pa_cons (pv 5) pa_nil))))
      (pss_cons (ps_set (i := 7) scLaw.nd rfl (Or.inl rfl) (pe_ifExp (pt_cmpR (op_eqD hu64) (pe_lc (own := [("x", 13)]) (g := gName 13) (tt := tTest (tOp rNe (tVar 13) (tOp (rIxL K) (tVar 6) (tC (.int 1))))) (te := tVar 13) rfl scLaw.nd (pi_list (pe_slice sl_list (pv 6) (po_some pe_int) po_none)) (blkOk_by (own := [("x", 13)]) (N := lawN) (sc := defScope sLaw) (by decide +kernel))
        (fun _ _ _ _ _ => (pg_name (i := 13) scLaw.nd rfl (Or.inl rfl))) (fun _ _ _ _ _ => pts_one (pt_cmpR op_ne (pv 13) (pe_ix ix_list (pv 6) pe_int (fun _ _ => rfl)) (nomark _))) (fun _ _ _ _ _ => (pv 13))) (pe_lst pa_nil) (nomark _)) (pe_op op_sub (pe_ix ix_list (pv 6) pe_int (fun _ _ => rfl)) (pe_ix ix_list (pv 6) pe_int (fun _ _ => rfl))) pe_non))
      p5))))), ?_⟩
  intro k a d l g u3 u4 u5 u6 u7 u8 u9 u10 u11 u12 H D fin
  -- rings
  refine seq_asg ?_
  refine ⟨_, rfl, d, l, 3, rfl, D, by decide, by decide, fun x H1 x0 x1 D1 K1 => ?_⟩
  refine ⟨_, _, rfl, rfl, _, rfl, ?_⟩
  refine if_both (fun Q1 => ∀ v r H2, DeckAt d l H2 → Keeps d l H1 H2 → TupP H2 v r → r ∈ RR → Q1 v H2) (fun Q1 q => ⟨_, rfl, d, l, rfl, D1, fun v r H2 D2 K2 tp h => q v r H2 D2 K2 tp h⟩) (fun Q1 q => ⟨_, rfl, ?_⟩) fun vr r H2 D2 K2 tp h14 => ?_
  · refine lst_tups (K := K) (rs := someR) rfl (by decide) (by decide) fun p ks H2 s2 t2 e2 n2 h2 => ?_
    have kl : ks.length = 5 := by
      have := congrArg List.length e2
      rw [List.length_map] at this
      exact this
    have D2 := s2.deck D1
    have o := off_deck D1 n2
    refine ⟨d, l, p, rf ks, rfl, D2, h2, o.2, by rw [List.length_map]; omega, by rw [List.length_map]; omega, fun v H3 hv D3 K3 => ?_⟩
    obtain ⟨y, hy, rfl⟩ := List.mem_map.mp hv
    exact q _ y.2 H3 D3 ((Same.keeps s2).trans K3) ⟨y.1, rfl, K3.tp0 D2 (t2.out y hy)⟩ (some_in _ (by rw [← e2]; exact List.mem_map_of_mem hy))
  refine set_ok ?_
  -- world
  refine seq_asg ?_
  refine ⟨_, rfl, vr, r, rfl, tp, h14, fun W H3 s3 n1 n2 n3 n4 hW => ?_⟩
  refine set_ok ?_
  have ct3 : Ct K d l W r H3 := ⟨s3.deck D2, off_of D2 s3 hW n1 n2 n3 n4, hW⟩
  have hvr3 : TupI K H3 vr r := s3.tupI tp.i
  -- whole
  refine seq_asg ?_
  refine ⟨_, rfl, _, rfl, d, l, W, r, rfl, ct3.D, ct3.of, ct3.W, fun vw xs H4 D4 K4 xl xb hvw => ?_⟩
  refine set_ok ?_
  have ct4 := ct3.keeps D4 K4
  have hvr4 := K4.tupI ct3.D hvr3
  -- counts
  refine seq_asg ?_
  refine ⟨_, rfl, _, rfl, W, vw, r, xs, rfl, ct4.W, hvw, xl, (fun x hx => by have := xb x hx; omega), fun C H5 s5 nC gC => ?_⟩
  refine set_ok ?_
  have ct5 := ct4.same s5
  have h16 := rr_pl0 r h14
  have tp2 := two_pos r h14
  have cl := ctL_len r xs
  -- flat
  refine seq_asg ?_
  refine ⟨_, rfl, _, rfl, C, _, rfl, SqL.of gC, fun L nL => ?_⟩
  rw [cut_one, ← List.map_drop]
  have sL : Same H5 (upd H5 L (.lst (((ctL r xs).drop 1).map V.int))) := same_upd nL
  refine ⟨L, rfl, ⟨_, SqL.of upd_same⟩, ?_⟩
  have gL : upd H5 L (.lst (((ctL r xs).drop 1).map V.int)) L = some (.lst (((ctL r xs).drop 1).map V.int)) := upd_same
  show ∀ D, upd H5 L (.lst (((ctL r xs).drop 1).map V.int)) D = none → _
  generalize upd H5 L (.lst (((ctL r xs).drop 1).map V.int)) = H6 at sL gL
  intro M nM
  have c1 : ∀ {H7 : Hp}, Same H6 H7 → SqL K H7 C ((ctL r xs).map V.int) := fun s7 => SqL.of ((sL.trans s7) _ _ gC)
  have a1 : atI ((ctL r xs).map V.int) (1 : Int) = some (.int ((ctL r xs).getD 1 0)) := atI_nat (j := 1) (getD_of (by omega))
  have a0 : atI ((ctL r xs).map V.int) (0 : Int) = some (.int ((ctL r xs).getD 0 0)) := atI_nat (j := 0) (getD_of (by omega))
  refine lc_list (K := K) (a := L) (xs := ((ctL r xs).drop 1).map V.int) (fun i H7 => Same H6 H7 ∧ H7 M = some (.lst (((((ctL r xs).drop 1).take i).filter fun x => decide (x ≠ (ctL r xs).getD 1 0)).map V.int))) ⟨same_upd nM, by rw [upd_same]; rfl⟩ (fun i H7 _ ⟨s7, _⟩ => SqL.of (s7 _ _ gL)) ?_ ?_
  · rintro i y H7 hi ⟨s7, g7⟩
    obtain ⟨x, rfl, hx⟩ := getI hi
    have il := ltL hx
    rw [List.length_drop, cl] at il
    refine ⟨rfl, _, rfl, _, rfl, C, _, _, _, rfl, rfl, c1 s7, a1, rfl, _, rfl, ?_⟩
    have fl : ((((ctL r xs).drop 1).take i).filter fun x => decide (x ≠ (ctL r xs).getD 1 0)).length ≤ 16 := by
      have := List.length_filter_le (fun x => decide (x ≠ (ctL r xs).getD 1 0)) (((ctL r xs).drop 1).take i)
      rw [List.length_take] at this
      omega
    generalize (ctL r xs).getD 1 0 = cc at g7 fl ⊢
    by_cases c : x = cc
    · have e : (!decide (V.int x = V.int cc)) = false := by simp [c]
      rw [e]
      refine ⟨s7, ?_⟩
      rw [g7, takeS hx, List.filter_append]
      simp [c]
    · have e : (!decide (V.int x = V.int cc)) = true := by
        have : V.int x ≠ V.int cc := fun z => c (V.int.inj z)
        simp [this]
      rw [e]
      refine ⟨_, rfl, _, g7, sl_lt (by rw [List.length_map]; omega), same_at s7 nM, ?_⟩
      rw [upd_same, takeS hx, List.filter_append, List.map_append]
      simp [c]
  rintro H7 ⟨s7, g7⟩
  rw [List.length_map, List.take_length] at g7
  refine ⟨by decide, fun N nN => ?_⟩
  have sN : Same H7 (upd H7 N (.lst [])) := same_upd nN
  refine ⟨.list ((othL r xs).map PyData.int), .list [], .lst (SqL.of (sN _ _ g7)) (dp_ints _), .lst (SqL.of upd_same) .nil, shaped_ints _, shaped_ints [], _, rfl, ?_⟩
  rw [eqv_nil]
  generalize upd H7 N (.lst []) = H8 at sN
  have s68 := s7.trans sN
  have s58 := sL.trans s68
  have ct8 := ct5.same s58
  have hvr8 := (s5.trans s58).tupI hvr4
  have hvw8 := (s5.trans s58).tupI hvw
  by_cases lv : Lev r xs
  · rw [decide_eq_true (oth_nil.mpr lv)]
    refine iteT ?_
    refine ⟨_, rfl, C, _, _, _, rfl, rfl, c1 s68, a0, _, rfl, C, _, _, _, rfl, rfl, c1 s68, a1, _, _, rfl, rfl, ?_⟩
    refine set_ok ?_
    exact q5 k a d l W r xs vr vw _ g _ _ _ _ _ _ H8 ct8 hvr8 hvw8 xl xb (.inl ⟨lv, rfl⟩) fin
  · rw [decide_eq_false (fun z => lv (oth_nil.mp z))]
    refine iteF ?_
    exact q5 k a d l W r xs vr vw .non g _ _ _ _ _ _ H8 ct8 hvr8 hvw8 xl xb (.inr ⟨lv, rfl⟩) fin
theorem ok_law (F : FnP K "law" sLaw f fd) (B : Bl mg) (Z : Fs P w K mg base)
    {A : Around} (hA : A.guards = some []) (hr : Room 11 A) (outer : List Env) (s : Shared) (H : Hp) (args : Args) (us : List Value) (vs : List V) (Q : VK) (E : XK) (e0 : Env0 P w K mg base A outer s H)
    (hb : BindsTo s fd args ((["script"] : List Str).zip us)) (r : Vals vs us) (hsp : spLaw K vs H Q E) : codeAny (model P w) A (.call (.ref f) args) (CR CX0 outer P w H s Q E) s := by
  refine fn_at F scLaw (fun vs H Q E h => ?_) hr (fun cdv outer s H vs Q E hr h => ?_) outer s H args us vs Q E e0 hb r hsp
  · obtain ⟨a, ns, rfl, _⟩ := h
    rfl
  · obtain ⟨t0, p0, k0⟩ := part0 (P := P) (w := w) (K := K) (mg := mg) (base := base) (f := f) (cdv := cdv) (A := A) (outer := outer) (s0 := s) (H0 := H) (E := E) Z B hA hr
    refine ⟨_, PSs.nox (pss_cons (ps_set (i := 1) scLaw.nd rfl (Or.inl rfl) (pe_call Z.f_l_deck.G (hr.mono (by decide)) (by rfl) Z.f_l_deck.g Z.f_l_deck.F.kp Z.f_l_deck.b .nil pass0 (pa_cons (pv 0) pa_nil)))
      (pss_cons (ps_for PassesOwn.never rfl (pi_range1 (by rfl) (B "range" (by decide +kernel)) (pa_cons pe_int pa_nil)) (pg_name (i := 2) scLaw.nd rfl (Or.inl rfl)) p0)
      (pss_one (ps_ret pe_bl)))), ?_⟩
    obtain ⟨a, ns, rfl, hS, hlen, hQ⟩ := h
    refine ⟨_, rfl, a, ns, rfl, hS, hlen, fun d l H1 D1 _ _ _ => ?_⟩
    refine ⟨_, rfl, by decide, by decide, ?_⟩
    refine for_range (lo := 0) (n := 2) (fun i σ H2 => StA a d σ ∧ DeckAt d l H2) ⟨⟨none, none, none, none, none, none, none, none, none, none, none, rfl⟩, D1⟩ ?_ ?_
    · rintro i σ H2 hi ⟨⟨u2, u3, u4, u5, u6, u7, u8, u9, u10, u11, u12, rfl⟩, D2⟩
      refine set_ok ?_
      refine k0 _ a d l (0 + (i : Int)) u3 u4 u5 u6 u7 u8 u9 u10 u11 u12 H2 D2 fun σ' H' st D' => ?_
      exact ⟨st, D'⟩
    · rintro σ H2 ⟨⟨u2, u3, u4, u5, u6, u7, u8, u9, u10, u11, u12, rfl⟩, D2⟩
      exact hQ H2
end
end K45

/-! The facts that the head must tell. -/
namespace K45
open PySem PySem.Spec PyProof.Rows L2
def dGlo (x : Str) (st : Stmt) : He.DefD := ⟨(x, none), x, x, defArgs st, defBody st, defScope st, [], []⟩
def dMe (m q : Str) (st : Stmt) : He.DefD := ⟨("Floor", some m), m, q, defArgs st, defBody st, defScope st, [], []⟩
def fn : List He.DefD := [dGlo "units_of" sUnits, dGlo "primes_of" sPrimes, dGlo "list_places" sPlaces, dGlo "common_order" sOrder, dGlo "paired" sPaired, dGlo "polynomial_of" sPoly, dGlo "_stretched" sStr, dGlo "_divided" sDiv, dGlo "reduced" sRed, dGlo "multiplied" sMulP, dGlo "spread" sSpread, dGlo "exchanged_tops" sExT, dGlo "lowered" sLow, dGlo "is_integer" sIsInt, dGlo "is_integers" sIsInts, dGlo "is_order" sIsOrd, dGlo "check_order" sChkO, dGlo "check_number" sChkN, dGlo "is_number" sIsNum, dGlo "number_of" sNumOf, dGlo "_product" sProd, dGlo "loudness" sLoud, dGlo "are_rings" sAre, dGlo "_size" sSize, dGlo "check_rings" sChkR, dGlo "is_place" sIsPl, dGlo "check_place" sChkP, dGlo "size_of" sSizeOf, dGlo "order_of" sOrdOf, dGlo "levelled" sLev, dGlo "turned_sum" sTSum, dGlo "voices_of" sVOf, dGlo "is_row" sIsRow, dGlo "is_whole" sIsWhole, dGlo "check_row" sChkRow, dGlo "check_whole" sChkWhole, dGlo "row_of" sRowOf, dGlo "voice" sVoice, dGlo "judge_flat" sJudge, dGlo "_loudnesses" sLouds, dGlo "flat_holds" sFlatH, dGlo "_law_deck" sDeck, dGlo "_law_draw" sDraw, dGlo "_law_pick" sPick, dGlo "_law_is_integer" sLIsInt, dGlo "_law_divisor" sLDiv, dGlo "_law_places" sLPlaces, dGlo "_law_order" sLOrder, dGlo "_law_pairing" sLPairing, dGlo "_law_sum" sLSum, dGlo "_law_phi" sLPhi, dGlo "_law_number" sLNumber, dGlo "_law_world" sLWorld, dGlo "_law_voice" sLVoice, dGlo "_law_whole" sLWhole, dGlo "_law_is_place" sLIsPl, dGlo "_law_counted" sLCounted, dGlo "_law_drawn_whole" sLDrawnW, dGlo "_law_moved_whole" sLMovedW, dGlo "_law_small" sLSmall, dGlo "_law_flat_whole" sLFlatW, dGlo "_law_loud" sLLoud, dGlo "_law_is_right" sLRight, dGlo "law" sLaw] ++ [dMe "tops_of" "Floor.tops_of" sFTops, dMe "seats" "Floor.seats" sFSeats, dMe "__init__" "Floor.__init__" sFInit, dMe "pairing_of" "Floor.pairing_of" sFPair]
def fa : List He.Fa := [.glo "units_of", .glo "primes_of", .glo "list_places", .glo "common_order", .glo "paired", .glo "polynomial_of", .glo "_stretched", .glo "_divided", .glo "reduced", .glo "multiplied", .glo "spread", .glo "exchanged_tops", .glo "lowered", .glo "is_integer", .glo "is_integers", .glo "is_order", .glo "check_order", .glo "check_number", .glo "is_number", .glo "number_of", .glo "_product", .glo "loudness", .glo "are_rings", .glo "_size", .glo "check_rings", .glo "is_place", .glo "check_place", .glo "size_of", .glo "order_of", .glo "levelled", .glo "turned_sum", .glo "voices_of", .glo "is_row", .glo "is_whole", .glo "check_row", .glo "check_whole", .glo "row_of", .glo "voice", .glo "judge_flat", .glo "_loudnesses", .glo "flat_holds", .glo "_law_deck", .glo "_law_draw", .glo "_law_pick", .glo "_law_is_integer", .glo "_law_divisor", .glo "_law_places", .glo "_law_order", .glo "_law_pairing", .glo "_law_sum", .glo "_law_phi", .glo "_law_number", .glo "_law_world", .glo "_law_voice", .glo "_law_whole", .glo "_law_is_place", .glo "_law_counted", .glo "_law_drawn_whole", .glo "_law_moved_whole", .glo "_law_small", .glo "_law_flat_whole", .glo "_law_loud", .glo "_law_is_right", .glo "law"] ++ blt.map .free ++ [.free "any", .free "dict", .int "MOST_RINGS" 4, .int "MOST_PLACES" 60, .int "MOST_ORDER" 60, .int "MOST_ITEMS" 60, .glo "Floor", .cls "Floor", .noat "Floor" "rings", .noat "Floor" "order", .noat "Floor" "polynomial", .noat "Floor" "degree", .noat "Floor" "places", .mkr "Floor", .meth "Floor" "pairing_of", .meth "Floor" "tops_of"]
def ex (K : PySem.W.Frag) : Bool := He.eqO (PySem.W.nsIn K mainGlobals "gcd") (some (some (.builtin "math.gcd"))) && He.eqO (PySem.W.nsIn K mainGlobals "lcm") (some (some (.builtin "math.lcm")))
end K45

/-! The law's end. -/
namespace K45
open PySem PySem.Spec PyProof.Rows L2
abbrev LW : PySem.W.OpenLaw := PySem.Challenge.rw_ringvoices_k45_whole_flat_rows
abbrev PL : Program := LW.prog
/-! ### a law whose promise stands at the first caller alone -/
theorem law_callA {P : Program} {w : World} {K : PySem.W.Frag} {mg mb : Str → Option Value} {CX : CXT} {fa a : Addr} {fd : FuncData} {x : Str} {sp : Sp} {s₁ : Shared} {vs : List Value} {ns : List Int}
    (KX : K.In s₁.heap) (hns : s₁.heap.Ns mainGlobals mg) (hb : s₁.heap.Ns builtinsNs mb) (hbb : ∀ x : Str, x ≠ "__name__" → mb x = bootBuiltins x) (hlim : s₁.heap.NoLimit) (hg : s₁.gens = #[])
    (ha : s₁.heap.get? a = some { cls := .type "list", data := .seq vs.toArray }) (hi : IntsAre vs ns) (hl : ns.length ≤ sizeLine)
    (F : ∀ base : Heap, K.In base → base.Ns mainGlobals mg → ∀ (s : Shared) (H : Hp) (args : Args) (us : List Value) (vs : List V) (Q : VK) (E : XK), Env0 P w K mg base callerA [] s H → BindsTo s fd args ([x].zip us) → Vals vs us → sp vs H Q E → codeAny (model P w) callerA (.call (.ref fa) args) (CR CX [] P w H s Q E) s) (hbind : ∀ (s : Shared) (u : Value), BindsTo s fd ⟨[u], []⟩ [(x, u)])
    (hsp : ∀ H : Hp, Only H → SqL K H a (ns.map V.int) → sp [.ref a] H (fun v _ => v = .bl true) fun _ _ _ => False)
    (hCX : ∀ H e s', CX [] H s₁ (fun _ _ _ => False) e s' → False) :
    codeAny (model P w) callerA (.call (.ref fa) ⟨[.ref a], []⟩) (fun r s' => r = .ok (.ret (.bool true)) ∧ OldK s₁.heap s'.heap ∧ s'.os = s₁.os ∧ AllBare s'.gens) s₁ := by
  have rv := vals_ints hi
  have lenV := hi.length
  -- from an abstract heap in which nothing but the script may be tracked
  have core : ∀ H : Hp, Only H → SqL K H a (ns.map V.int) → HOk P w H s₁.heap → (∀ b, H b ≠ none → b = a) → (H a ≠ none → K.lookup a = none) →
      codeAny (model P w) callerA (.call (.ref fa) ⟨[.ref a], []⟩) (fun r s' => r = .ok (.ret (.bool true)) ∧ OldK s₁.heap s'.heap ∧ s'.os = s₁.os ∧ AllBare s'.gens) s₁ := by
    intro H hO hS hok hA hK
    have base_of : ∀ {b : Addr} {o : Obj}, s₁.heap.get? b = some o → H b = none → (hidT s₁.heap H).get? b = some o := fun e n => hidT_get e n
    have noA : ∀ {b : Addr} {o : Obj} {es : Array DictEntry} {ep : Nat}, s₁.heap.get? b = some o → o.data = .dict es ep → H b = none := fun {b o es ep} e d => by
      cases q : H b with
      | none => rfl
      | some u =>
        have e' : b = a := hA b (by rw [q]; simp)
        subst e'
        rw [ha] at e; cases e
        have d' : Data.seq vs.toArray _ = Data.dict es ep := d
        cases d'
    have nsK : ∀ {b : Addr} {m : Str → Option Value}, s₁.heap.Ns b m → (hidT s₁.heap H).Ns b m := fun {b m} ⟨o, es, ep, e, d, r⟩ => ⟨o, es, ep, base_of e (noA e d), d, r⟩
    have hKb : K.In (hidT s₁.heap H) := fun b o e => base_of (KX b o e) (by
      cases q : H b with
      | none => rfl
      | some u =>
        have e' : b = a := hA b (by rw [q]; simp)
        subst e'
        rw [hK (by rw [q]; simp)] at e; cases e)
    have hM : Mod K mg (hidT s₁.heap H) := ⟨hKb, nsK hns, ⟨mb, nsK hb, hbb⟩, let ⟨mc, h1, h2⟩ := hlim; ⟨mc, nsK h1, h2⟩⟩
    have e0 : Env0 P w K mg (hidT s₁.heap H) callerA [] s₁ H := ⟨rfl, hM, fun b o e => of_hidT e, Nat.le_of_eq (hidT_size _ _), trivial, fun b hb => absurd (show b ∈ ([] : List Addr) from hb) (by simp), hok, .of_eq hg⟩
    refine codeAny_mono (F _ hKb (nsK hns) s₁ H ⟨[.ref a], []⟩ [.ref a] [.ref a] _ _ e0 (hbind s₁ (.ref a)) (.cons rfl .nil) (hsp H hO hS)) fun r s' h => ?_
    cases r with
    | error e => exact (hCX H e s' h).elim
    | ok fl =>
      cases fl with
      | next => exact False.elim h
      | brk => exact False.elim h
      | cont => exact False.elim h
      | ret u =>
        obtain ⟨v, H', os, bare, un, hok', r', q⟩ := h
        have q' : v = .bl true := q
        subst q'
        obtain rfl : u = Value.bool true := r'
        refine ⟨rfl, OldK.of_keep fun b o e => ?_, os, bare⟩
        cases q : H b with
        | none => exact un.keep b o e q (by intro z; exact absurd (show b ∈ ([] : List Addr) from z) (by simp)) (by simp)
        | some u =>
          rcases hO b with z | ⟨ob, xs, z⟩
          · rw [q] at z; cases z
          · have z2 := un.frzs b ob _ z
            obtain ⟨e1, _⟩ := hok b _ z
            obtain ⟨e2, _⟩ := hok' b _ z2
            rw [e] at e1; cases e1
            exact e2
  cases hk : K.lookup a with
  | some o =>
    -- the script is one of the module's own objects
    have e := KX a o hk
    rw [ha] at e
    cases e
    refine core (fun _ => none) (fun _ => .inl rfl) (.inr ⟨_, vs.toArray, _, hk, rfl, rfl, rfl, by rw [List.size_toArray, lenV]; exact hl, by simpa using rv⟩) (fun b u z => by have z' : (none : Option HO) = some u := z; cases z') (fun b z => absurd rfl z) fun z => absurd rfl z
  | none =>
    refine core (fun b => if b = a then some (.frz { cls := .type "list", data := .seq vs.toArray } (.lst (ns.map V.int))) else none) (fun b => ?_) (.inl (.inr ⟨{ cls := .type "list", data := .seq vs.toArray }, if_pos rfl⟩)) (fun b u z => ?_) (fun b z => ?_) fun _ => hk
    · by_cases hb : b = a
      · exact .inr ⟨_, _, if_pos hb⟩
      · exact .inl (if_neg hb)
    · by_cases hb : b = a
      · have z' := (if_pos hb).symm.trans z
        cases z'
        subst hb
        exact ⟨ha, by rw [List.length_map]; exact hl, vs, _, rv, ha⟩
      · have z' := (if_neg hb).symm.trans z
        cases z'
    · by_cases hb : b = a
      · exact hb
      · exact absurd (if_neg hb) z
theorem walk_ofA {l : PySem.W.OpenLaw} {n : Nat} {q : Program} {loose : List Str} {XP : (Str → Option Value) → Heap → Prop} {YP : World → Heap → Prop} {d : DefRec} {CX : CXT} {x : Str}
    (hn : l.most = some n) (hn2 : n ≤ sizeLine) (hdf : d.params.defaults = [])
    (F : ∀ (w : World) (mg : Str → Option Value) (fa : Addr) (h : Heap), YP w h → h.Ns mainGlobals mg → mg d.name = some (.ref fa) →
      ∃ (K : PySem.W.Frag) (fd : FuncData) (sp : Sp), K.In h ∧ (∀ (s : Shared) (u : Value), BindsTo s fd ⟨[u], []⟩ [(x, u)]) ∧
        (∀ (H : Hp) (a : Addr) (ns : List Int), ns.length ≤ n → Only H → SqL K H a (ns.map V.int) → sp [.ref a] H (fun v _ => v = .bl true) fun _ _ _ => False) ∧
        ∀ base : Heap, K.In base → base.Ns mainGlobals mg → ∀ (s : Shared) (H : Hp) (args : Args) (us : List Value) (vs : List V) (Q : VK) (E : XK), Env0 l.prog w K mg base callerA [] s H → BindsTo s fd args ([x].zip us) → Vals vs us → sp vs H Q E → codeAny (model l.prog w) callerA (.call (.ref fa) args) (CR CX [] l.prog w H s Q E) s)
    (hCX : ∀ (H : Hp) (s : Shared) (e : Value) (s' : Shared), CX [] H s (fun _ _ _ => False) e s' → False) :
    PySem.W.WalkO q loose XP YP l.row.toRowW d [] (fun f vs => PySem.call f vs) := by
  refine Att.attach_call hn hdf fun w s₀ s₁ mg mb fa o pm cd doc a vs ns G Y ho hd hcd hmg hobj hints hlen hg => ?_
  obtain ⟨K, fd, sp, KX, hb, hsp, hF⟩ := F w mg fa _ Y G.T.g hmg
  exact law_callA KX G.T.g G.T.b G.T.builtins G.T.nolimit hg hobj hints (Nat.le_trans hlen hn2) hF hb (fun H hO hS => hsp H a ns hlen hO hS) fun H e s' => hCX H s₁ e s'
end K45

/-! The law holds. -/
namespace K45
open PySem PySem.Spec PyProof.Rows L2
section
variable {w : World} {K : PySem.W.Frag} {mg : Str → Option Value} {base h : Heap} {f : Addr}
theorem facts (X : K.In h) (G : h.Ns mainGlobals mg) (hfa : mg ("law" : Str) = some (.ref f)) (c : He.SaysD fa fn K) (c2 : ex K = true) :
    ∃ fd : FuncData, (∀ (s : Shared) (v : Value), BindsTo s fd ⟨[v], []⟩ [("script", v)]) ∧ ∀ base : Heap, K.In base → base.Ns mainGlobals mg → ∀ (s : Shared) (H : Hp) (args : Args) (us : List Value) (vs : List V) (Q : VK) (E : XK), Env0 PL w K mg base callerA [] s H → BindsTo s fd args ((["script"] : List Str).zip us) → Vals vs us → spLaw K vs H Q E → codeAny (model PL w) callerA (.call (.ref f) args) (CR CX0 [] PL w H s Q E) s := by
  obtain ⟨d_units_of, F_units_of⟩ := c.def_ 0 (d := dGlo "units_of" sUnits) rfl
  obtain ⟨d_primes_of, F_primes_of⟩ := c.def_ 1 (d := dGlo "primes_of" sPrimes) rfl
  obtain ⟨d_list_places, F_list_places⟩ := c.def_ 2 (d := dGlo "list_places" sPlaces) rfl
  obtain ⟨d_common_order, F_common_order⟩ := c.def_ 3 (d := dGlo "common_order" sOrder) rfl
  obtain ⟨d_paired, F_paired⟩ := c.def_ 4 (d := dGlo "paired" sPaired) rfl
  obtain ⟨d_polynomial_of, F_polynomial_of⟩ := c.def_ 5 (d := dGlo "polynomial_of" sPoly) rfl
  obtain ⟨d__stretched, F__stretched⟩ := c.def_ 6 (d := dGlo "_stretched" sStr) rfl
  obtain ⟨d__divided, F__divided⟩ := c.def_ 7 (d := dGlo "_divided" sDiv) rfl
  obtain ⟨d_reduced, F_reduced⟩ := c.def_ 8 (d := dGlo "reduced" sRed) rfl
  obtain ⟨d_multiplied, F_multiplied⟩ := c.def_ 9 (d := dGlo "multiplied" sMulP) rfl
  obtain ⟨d_spread, F_spread⟩ := c.def_ 10 (d := dGlo "spread" sSpread) rfl
  obtain ⟨d_exchanged_tops, F_exchanged_tops⟩ := c.def_ 11 (d := dGlo "exchanged_tops" sExT) rfl
  obtain ⟨d_lowered, F_lowered⟩ := c.def_ 12 (d := dGlo "lowered" sLow) rfl
  obtain ⟨d_is_integer, F_is_integer⟩ := c.def_ 13 (d := dGlo "is_integer" sIsInt) rfl
  obtain ⟨d_is_integers, F_is_integers⟩ := c.def_ 14 (d := dGlo "is_integers" sIsInts) rfl
  obtain ⟨d_is_order, F_is_order⟩ := c.def_ 15 (d := dGlo "is_order" sIsOrd) rfl
  obtain ⟨d_check_order, F_check_order⟩ := c.def_ 16 (d := dGlo "check_order" sChkO) rfl
  obtain ⟨d_check_number, F_check_number⟩ := c.def_ 17 (d := dGlo "check_number" sChkN) rfl
  obtain ⟨d_is_number, F_is_number⟩ := c.def_ 18 (d := dGlo "is_number" sIsNum) rfl
  obtain ⟨d_number_of, F_number_of⟩ := c.def_ 19 (d := dGlo "number_of" sNumOf) rfl
  obtain ⟨d__product, F__product⟩ := c.def_ 20 (d := dGlo "_product" sProd) rfl
  obtain ⟨d_loudness, F_loudness⟩ := c.def_ 21 (d := dGlo "loudness" sLoud) rfl
  obtain ⟨d_are_rings, F_are_rings⟩ := c.def_ 22 (d := dGlo "are_rings" sAre) rfl
  obtain ⟨d__size, F__size⟩ := c.def_ 23 (d := dGlo "_size" sSize) rfl
  obtain ⟨d_check_rings, F_check_rings⟩ := c.def_ 24 (d := dGlo "check_rings" sChkR) rfl
  obtain ⟨d_is_place, F_is_place⟩ := c.def_ 25 (d := dGlo "is_place" sIsPl) rfl
  obtain ⟨d_check_place, F_check_place⟩ := c.def_ 26 (d := dGlo "check_place" sChkP) rfl
  obtain ⟨d_size_of, F_size_of⟩ := c.def_ 27 (d := dGlo "size_of" sSizeOf) rfl
  obtain ⟨d_order_of, F_order_of⟩ := c.def_ 28 (d := dGlo "order_of" sOrdOf) rfl
  obtain ⟨d_levelled, F_levelled⟩ := c.def_ 29 (d := dGlo "levelled" sLev) rfl
  obtain ⟨d_turned_sum, F_turned_sum⟩ := c.def_ 30 (d := dGlo "turned_sum" sTSum) rfl
  obtain ⟨d_voices_of, F_voices_of⟩ := c.def_ 31 (d := dGlo "voices_of" sVOf) rfl
  obtain ⟨d_is_row, F_is_row⟩ := c.def_ 32 (d := dGlo "is_row" sIsRow) rfl
  obtain ⟨d_is_whole, F_is_whole⟩ := c.def_ 33 (d := dGlo "is_whole" sIsWhole) rfl
  obtain ⟨d_check_row, F_check_row⟩ := c.def_ 34 (d := dGlo "check_row" sChkRow) rfl
  obtain ⟨d_check_whole, F_check_whole⟩ := c.def_ 35 (d := dGlo "check_whole" sChkWhole) rfl
  obtain ⟨d_row_of, F_row_of⟩ := c.def_ 36 (d := dGlo "row_of" sRowOf) rfl
  obtain ⟨d_voice, F_voice⟩ := c.def_ 37 (d := dGlo "voice" sVoice) rfl
  obtain ⟨d_judge_flat, F_judge_flat⟩ := c.def_ 38 (d := dGlo "judge_flat" sJudge) rfl
  obtain ⟨d__loudnesses, F__loudnesses⟩ := c.def_ 39 (d := dGlo "_loudnesses" sLouds) rfl
  obtain ⟨d_flat_holds, F_flat_holds⟩ := c.def_ 40 (d := dGlo "flat_holds" sFlatH) rfl
  obtain ⟨d__law_deck, F__law_deck⟩ := c.def_ 41 (d := dGlo "_law_deck" sDeck) rfl
  obtain ⟨d__law_draw, F__law_draw⟩ := c.def_ 42 (d := dGlo "_law_draw" sDraw) rfl
  obtain ⟨d__law_pick, F__law_pick⟩ := c.def_ 43 (d := dGlo "_law_pick" sPick) rfl
  obtain ⟨d__law_is_integer, F__law_is_integer⟩ := c.def_ 44 (d := dGlo "_law_is_integer" sLIsInt) rfl
  obtain ⟨d__law_divisor, F__law_divisor⟩ := c.def_ 45 (d := dGlo "_law_divisor" sLDiv) rfl
  obtain ⟨d__law_places, F__law_places⟩ := c.def_ 46 (d := dGlo "_law_places" sLPlaces) rfl
  obtain ⟨d__law_order, F__law_order⟩ := c.def_ 47 (d := dGlo "_law_order" sLOrder) rfl
  obtain ⟨d__law_pairing, F__law_pairing⟩ := c.def_ 48 (d := dGlo "_law_pairing" sLPairing) rfl
  obtain ⟨d__law_sum, F__law_sum⟩ := c.def_ 49 (d := dGlo "_law_sum" sLSum) rfl
  obtain ⟨d__law_phi, F__law_phi⟩ := c.def_ 50 (d := dGlo "_law_phi" sLPhi) rfl
  obtain ⟨d__law_number, F__law_number⟩ := c.def_ 51 (d := dGlo "_law_number" sLNumber) rfl
  obtain ⟨d__law_world, F__law_world⟩ := c.def_ 52 (d := dGlo "_law_world" sLWorld) rfl
  obtain ⟨d__law_voice, F__law_voice⟩ := c.def_ 53 (d := dGlo "_law_voice" sLVoice) rfl
  obtain ⟨d__law_whole, F__law_whole⟩ := c.def_ 54 (d := dGlo "_law_whole" sLWhole) rfl
  obtain ⟨d__law_is_place, F__law_is_place⟩ := c.def_ 55 (d := dGlo "_law_is_place" sLIsPl) rfl
  obtain ⟨d__law_counted, F__law_counted⟩ := c.def_ 56 (d := dGlo "_law_counted" sLCounted) rfl
  obtain ⟨d__law_drawn_whole, F__law_drawn_whole⟩ := c.def_ 57 (d := dGlo "_law_drawn_whole" sLDrawnW) rfl
  obtain ⟨d__law_moved_whole, F__law_moved_whole⟩ := c.def_ 58 (d := dGlo "_law_moved_whole" sLMovedW) rfl
  obtain ⟨d__law_small, F__law_small⟩ := c.def_ 59 (d := dGlo "_law_small" sLSmall) rfl
  obtain ⟨d__law_flat_whole, F__law_flat_whole⟩ := c.def_ 60 (d := dGlo "_law_flat_whole" sLFlatW) rfl
  obtain ⟨d__law_loud, F__law_loud⟩ := c.def_ 61 (d := dGlo "_law_loud" sLLoud) rfl
  obtain ⟨d__law_is_right, F__law_is_right⟩ := c.def_ 62 (d := dGlo "_law_is_right" sLRight) rfl
  obtain ⟨d_law, F_law⟩ := c.def_ 63 (d := dGlo "law" sLaw) rfl
  obtain ⟨d_Floor_tops_of, F_Floor_tops_of⟩ := c.def_ 64 (d := dMe "tops_of" "Floor.tops_of" sFTops) rfl
  obtain ⟨d_Floor_seats, F_Floor_seats⟩ := c.def_ 65 (d := dMe "seats" "Floor.seats" sFSeats) rfl
  obtain ⟨d_Floor___init__, F_Floor___init__⟩ := c.def_ 66 (d := dMe "__init__" "Floor.__init__" sFInit) rfl
  obtain ⟨d_Floor_pairing_of, F_Floor_pairing_of⟩ := c.def_ 67 (d := dMe "pairing_of" "Floor.pairing_of" sFPair) rfl
  have e := hfa.symm.trans (He.glo_ok X G (c.fact 63 (f := .glo "law") rfl))
  cases e
  have b := FunD.bindsA (ps := ["script"]) F_law fun _ _ _ _ _ _ us hl => match us, hl with | [_], _ => rfl
  refine ⟨d_law, fun s v => b s [v] rfl, fun base hKb hGb s H args us vs Q E e0 hb r hsp => ?_⟩
  have B : Bl mg := fun x hx => He.free_ok X G (c.facts (f := .free x) (List.mem_append_left _ (List.mem_append_right _ (List.mem_map_of_mem hx))))
  obtain ⟨x1, x2⟩ := He.ba c2
  have gG : mg ("gcd" : Str) = some (.builtin "math.gcd") := PySem.W.mg_of X G (He.eqO_ok x1)
  have gL : mg ("lcm" : Str) = some (.builtin "math.lcm") := PySem.W.mg_of X G (He.eqO_ok x2)
  have B_any : mg ("any" : Str) = none := He.free_ok X G (c.fact 81 (f := .free "any") rfl)
  have B_dict : mg ("dict" : Str) = none := He.free_ok X G (c.fact 82 (f := .free "dict") rfl)
  have gR : ∃ t, mg ("MOST_RINGS" : Str) = some (.int 4 t) := He.int_ok X G (c.fact 83 (f := .int "MOST_RINGS" 4) rfl)
  have gP : ∃ t, mg ("MOST_PLACES" : Str) = some (.int 60 t) := He.int_ok X G (c.fact 84 (f := .int "MOST_PLACES" 60) rfl)
  have gO : ∃ t, mg ("MOST_ORDER" : Str) = some (.int 60 t) := He.int_ok X G (c.fact 85 (f := .int "MOST_ORDER" 60) rfl)
  have gI : ∃ t, mg ("MOST_ITEMS" : Str) = some (.int 60 t) := He.int_ok X G (c.fact 86 (f := .int "MOST_ITEMS" 60) rfl)
  have T : FlT K mg (He.ga K "Floor") (He.ma K (He.ga K "Floor") "__init__") (He.ma K (He.ga K "Floor") "pairing_of") := {
    cl := He.cls_ok (c.fact 88 (f := .cls "Floor") rfl)
    aR := He.noat_ok (c.fact 89 (f := .noat "Floor" "rings") rfl)
    aO := He.noat_ok (c.fact 90 (f := .noat "Floor" "order") rfl)
    aP := He.noat_ok (c.fact 91 (f := .noat "Floor" "polynomial") rfl)
    aD := He.noat_ok (c.fact 92 (f := .noat "Floor" "degree") rfl)
    aL := He.noat_ok (c.fact 93 (f := .noat "Floor" "places") rfl)
    mkk := He.mkr_ok (c.fact 94 (f := .mkr "Floor") rfl)
    mt := He.meth_ok (c.fact 95 (f := .meth "Floor" "pairing_of") rfl)
    mgC := He.glo_ok X G (c.fact 87 (f := .glo "Floor") rfl) }
  have MT_tops_of := He.meth_ok (c.fact 96 (f := .meth "Floor" "tops_of") rfl)
  have g_units_of : mg ("units_of" : Str) = some (.ref (He.ga K "units_of")) := He.glo_ok X G (c.fact 0 (f := .glo "units_of") rfl)
  have g_primes_of : mg ("primes_of" : Str) = some (.ref (He.ga K "primes_of")) := He.glo_ok X G (c.fact 1 (f := .glo "primes_of") rfl)
  have g_list_places : mg ("list_places" : Str) = some (.ref (He.ga K "list_places")) := He.glo_ok X G (c.fact 2 (f := .glo "list_places") rfl)
  have g_common_order : mg ("common_order" : Str) = some (.ref (He.ga K "common_order")) := He.glo_ok X G (c.fact 3 (f := .glo "common_order") rfl)
  have g_paired : mg ("paired" : Str) = some (.ref (He.ga K "paired")) := He.glo_ok X G (c.fact 4 (f := .glo "paired") rfl)
  have g_polynomial_of : mg ("polynomial_of" : Str) = some (.ref (He.ga K "polynomial_of")) := He.glo_ok X G (c.fact 5 (f := .glo "polynomial_of") rfl)
  have g__stretched : mg ("_stretched" : Str) = some (.ref (He.ga K "_stretched")) := He.glo_ok X G (c.fact 6 (f := .glo "_stretched") rfl)
  have g__divided : mg ("_divided" : Str) = some (.ref (He.ga K "_divided")) := He.glo_ok X G (c.fact 7 (f := .glo "_divided") rfl)
  have g_reduced : mg ("reduced" : Str) = some (.ref (He.ga K "reduced")) := He.glo_ok X G (c.fact 8 (f := .glo "reduced") rfl)
  have g_multiplied : mg ("multiplied" : Str) = some (.ref (He.ga K "multiplied")) := He.glo_ok X G (c.fact 9 (f := .glo "multiplied") rfl)
  have g_spread : mg ("spread" : Str) = some (.ref (He.ga K "spread")) := He.glo_ok X G (c.fact 10 (f := .glo "spread") rfl)
  have g_exchanged_tops : mg ("exchanged_tops" : Str) = some (.ref (He.ga K "exchanged_tops")) := He.glo_ok X G (c.fact 11 (f := .glo "exchanged_tops") rfl)
  have g_lowered : mg ("lowered" : Str) = some (.ref (He.ga K "lowered")) := He.glo_ok X G (c.fact 12 (f := .glo "lowered") rfl)
  have g_is_integer : mg ("is_integer" : Str) = some (.ref (He.ga K "is_integer")) := He.glo_ok X G (c.fact 13 (f := .glo "is_integer") rfl)
  have g_is_integers : mg ("is_integers" : Str) = some (.ref (He.ga K "is_integers")) := He.glo_ok X G (c.fact 14 (f := .glo "is_integers") rfl)
  have g_is_order : mg ("is_order" : Str) = some (.ref (He.ga K "is_order")) := He.glo_ok X G (c.fact 15 (f := .glo "is_order") rfl)
  have g_check_order : mg ("check_order" : Str) = some (.ref (He.ga K "check_order")) := He.glo_ok X G (c.fact 16 (f := .glo "check_order") rfl)
  have g_check_number : mg ("check_number" : Str) = some (.ref (He.ga K "check_number")) := He.glo_ok X G (c.fact 17 (f := .glo "check_number") rfl)
  have g_is_number : mg ("is_number" : Str) = some (.ref (He.ga K "is_number")) := He.glo_ok X G (c.fact 18 (f := .glo "is_number") rfl)
  have g_number_of : mg ("number_of" : Str) = some (.ref (He.ga K "number_of")) := He.glo_ok X G (c.fact 19 (f := .glo "number_of") rfl)
  have g__product : mg ("_product" : Str) = some (.ref (He.ga K "_product")) := He.glo_ok X G (c.fact 20 (f := .glo "_product") rfl)
  have g_loudness : mg ("loudness" : Str) = some (.ref (He.ga K "loudness")) := He.glo_ok X G (c.fact 21 (f := .glo "loudness") rfl)
  have g_are_rings : mg ("are_rings" : Str) = some (.ref (He.ga K "are_rings")) := He.glo_ok X G (c.fact 22 (f := .glo "are_rings") rfl)
  have g__size : mg ("_size" : Str) = some (.ref (He.ga K "_size")) := He.glo_ok X G (c.fact 23 (f := .glo "_size") rfl)
  have g_check_rings : mg ("check_rings" : Str) = some (.ref (He.ga K "check_rings")) := He.glo_ok X G (c.fact 24 (f := .glo "check_rings") rfl)
  have g_is_place : mg ("is_place" : Str) = some (.ref (He.ga K "is_place")) := He.glo_ok X G (c.fact 25 (f := .glo "is_place") rfl)
  have g_check_place : mg ("check_place" : Str) = some (.ref (He.ga K "check_place")) := He.glo_ok X G (c.fact 26 (f := .glo "check_place") rfl)
  have g_size_of : mg ("size_of" : Str) = some (.ref (He.ga K "size_of")) := He.glo_ok X G (c.fact 27 (f := .glo "size_of") rfl)
  have g_order_of : mg ("order_of" : Str) = some (.ref (He.ga K "order_of")) := He.glo_ok X G (c.fact 28 (f := .glo "order_of") rfl)
  have g_levelled : mg ("levelled" : Str) = some (.ref (He.ga K "levelled")) := He.glo_ok X G (c.fact 29 (f := .glo "levelled") rfl)
  have g_turned_sum : mg ("turned_sum" : Str) = some (.ref (He.ga K "turned_sum")) := He.glo_ok X G (c.fact 30 (f := .glo "turned_sum") rfl)
  have g_voices_of : mg ("voices_of" : Str) = some (.ref (He.ga K "voices_of")) := He.glo_ok X G (c.fact 31 (f := .glo "voices_of") rfl)
  have g_is_row : mg ("is_row" : Str) = some (.ref (He.ga K "is_row")) := He.glo_ok X G (c.fact 32 (f := .glo "is_row") rfl)
  have g_is_whole : mg ("is_whole" : Str) = some (.ref (He.ga K "is_whole")) := He.glo_ok X G (c.fact 33 (f := .glo "is_whole") rfl)
  have g_check_row : mg ("check_row" : Str) = some (.ref (He.ga K "check_row")) := He.glo_ok X G (c.fact 34 (f := .glo "check_row") rfl)
  have g_check_whole : mg ("check_whole" : Str) = some (.ref (He.ga K "check_whole")) := He.glo_ok X G (c.fact 35 (f := .glo "check_whole") rfl)
  have g_row_of : mg ("row_of" : Str) = some (.ref (He.ga K "row_of")) := He.glo_ok X G (c.fact 36 (f := .glo "row_of") rfl)
  have g_voice : mg ("voice" : Str) = some (.ref (He.ga K "voice")) := He.glo_ok X G (c.fact 37 (f := .glo "voice") rfl)
  have g_judge_flat : mg ("judge_flat" : Str) = some (.ref (He.ga K "judge_flat")) := He.glo_ok X G (c.fact 38 (f := .glo "judge_flat") rfl)
  have g__loudnesses : mg ("_loudnesses" : Str) = some (.ref (He.ga K "_loudnesses")) := He.glo_ok X G (c.fact 39 (f := .glo "_loudnesses") rfl)
  have g_flat_holds : mg ("flat_holds" : Str) = some (.ref (He.ga K "flat_holds")) := He.glo_ok X G (c.fact 40 (f := .glo "flat_holds") rfl)
  have g__law_deck : mg ("_law_deck" : Str) = some (.ref (He.ga K "_law_deck")) := He.glo_ok X G (c.fact 41 (f := .glo "_law_deck") rfl)
  have g__law_draw : mg ("_law_draw" : Str) = some (.ref (He.ga K "_law_draw")) := He.glo_ok X G (c.fact 42 (f := .glo "_law_draw") rfl)
  have g__law_pick : mg ("_law_pick" : Str) = some (.ref (He.ga K "_law_pick")) := He.glo_ok X G (c.fact 43 (f := .glo "_law_pick") rfl)
  have g__law_is_integer : mg ("_law_is_integer" : Str) = some (.ref (He.ga K "_law_is_integer")) := He.glo_ok X G (c.fact 44 (f := .glo "_law_is_integer") rfl)
  have g__law_divisor : mg ("_law_divisor" : Str) = some (.ref (He.ga K "_law_divisor")) := He.glo_ok X G (c.fact 45 (f := .glo "_law_divisor") rfl)
  have g__law_places : mg ("_law_places" : Str) = some (.ref (He.ga K "_law_places")) := He.glo_ok X G (c.fact 46 (f := .glo "_law_places") rfl)
  have g__law_order : mg ("_law_order" : Str) = some (.ref (He.ga K "_law_order")) := He.glo_ok X G (c.fact 47 (f := .glo "_law_order") rfl)
  have g__law_pairing : mg ("_law_pairing" : Str) = some (.ref (He.ga K "_law_pairing")) := He.glo_ok X G (c.fact 48 (f := .glo "_law_pairing") rfl)
  have g__law_sum : mg ("_law_sum" : Str) = some (.ref (He.ga K "_law_sum")) := He.glo_ok X G (c.fact 49 (f := .glo "_law_sum") rfl)
  have g__law_phi : mg ("_law_phi" : Str) = some (.ref (He.ga K "_law_phi")) := He.glo_ok X G (c.fact 50 (f := .glo "_law_phi") rfl)
  have g__law_number : mg ("_law_number" : Str) = some (.ref (He.ga K "_law_number")) := He.glo_ok X G (c.fact 51 (f := .glo "_law_number") rfl)
  have g__law_world : mg ("_law_world" : Str) = some (.ref (He.ga K "_law_world")) := He.glo_ok X G (c.fact 52 (f := .glo "_law_world") rfl)
  have g__law_voice : mg ("_law_voice" : Str) = some (.ref (He.ga K "_law_voice")) := He.glo_ok X G (c.fact 53 (f := .glo "_law_voice") rfl)
  have g__law_whole : mg ("_law_whole" : Str) = some (.ref (He.ga K "_law_whole")) := He.glo_ok X G (c.fact 54 (f := .glo "_law_whole") rfl)
  have g__law_is_place : mg ("_law_is_place" : Str) = some (.ref (He.ga K "_law_is_place")) := He.glo_ok X G (c.fact 55 (f := .glo "_law_is_place") rfl)
  have g__law_counted : mg ("_law_counted" : Str) = some (.ref (He.ga K "_law_counted")) := He.glo_ok X G (c.fact 56 (f := .glo "_law_counted") rfl)
  have g__law_drawn_whole : mg ("_law_drawn_whole" : Str) = some (.ref (He.ga K "_law_drawn_whole")) := He.glo_ok X G (c.fact 57 (f := .glo "_law_drawn_whole") rfl)
  have g__law_moved_whole : mg ("_law_moved_whole" : Str) = some (.ref (He.ga K "_law_moved_whole")) := He.glo_ok X G (c.fact 58 (f := .glo "_law_moved_whole") rfl)
  have g__law_small : mg ("_law_small" : Str) = some (.ref (He.ga K "_law_small")) := He.glo_ok X G (c.fact 59 (f := .glo "_law_small") rfl)
  have g__law_flat_whole : mg ("_law_flat_whole" : Str) = some (.ref (He.ga K "_law_flat_whole")) := He.glo_ok X G (c.fact 60 (f := .glo "_law_flat_whole") rfl)
  have g__law_loud : mg ("_law_loud" : Str) = some (.ref (He.ga K "_law_loud")) := He.glo_ok X G (c.fact 61 (f := .glo "_law_loud") rfl)
  have g__law_is_right : mg ("_law_is_right" : Str) = some (.ref (He.ga K "_law_is_right")) := He.glo_ok X G (c.fact 62 (f := .glo "_law_is_right") rfl)
  have G_common_order : FnOk PL w K mg base CX0 1 (He.ga K "common_order") d_common_order ["rings"] (spOrder K) := ok_order F_common_order B gL
  have G_polynomial_of : FnOk PL w K mg base CX0 2 (He.ga K "polynomial_of") d_polynomial_of ["order"] (spPoly K) := ok_poly F_polynomial_of B F_primes_of g_primes_of F__divided g__divided F__stretched g__stretched
  have G_list_places : FnOk PL w K mg base CX0 1 (He.ga K "list_places") d_list_places ["rings"] (spPlaces K) := ok_places F_list_places B
  have G_Floor___init__ : FnOk PL w K mg base CX0 3 (He.ma K (He.ga K "Floor") "__init__") d_Floor___init__ ["self", "rings"] (spFInit K (He.ga K "Floor")) := ok_fInit F_Floor___init__ B T F_common_order g_common_order G_common_order F_polynomial_of g_polynomial_of G_polynomial_of F_list_places g_list_places G_list_places
  have G_is_integers : FnOk PL w K mg base CX0 2 (He.ga K "is_integers") d_is_integers ["thing"] (spIsInts K) := ok_isInts F_is_integers B F_is_integer g_is_integer
  have G_are_rings : FnOk PL w K mg base CX0 3 (He.ga K "are_rings") d_are_rings ["thing"] (spAre K) := ok_are F_are_rings B F_is_integers g_is_integers G_is_integers F__size g__size gR gP
  have G_check_rings : FnOk PL w K mg base CX0 4 (He.ga K "check_rings") d_check_rings ["rings"] (spNon K) := ok_chkR F_check_rings F_are_rings g_are_rings G_are_rings
  have G_size_of : FnOk PL w K mg base CX0 5 (He.ga K "size_of") d_size_of ["rings"] (spSzOf K) := ok_szOf F_size_of F_check_rings g_check_rings G_check_rings F__size g__size
  have G_is_whole : FnOk PL w K mg base CX0 6 (He.ga K "is_whole") d_is_whole ["rings", "thing"] (spWhole K (.bl true)) := ok_isWhole F_is_whole B F_size_of g_size_of G_size_of F_is_integers g_is_integers G_is_integers
  have G_check_whole : FnOk PL w K mg base CX0 7 (He.ga K "check_whole") d_check_whole ["rings", "whole"] (spWhole K .non) := ok_chkWhole F_check_whole F_is_whole g_is_whole G_is_whole
  have G_levelled : FnOk PL w K mg base CX0 1 (He.ga K "levelled") d_levelled ["numbers"] (spLev K) := ok_lev F_levelled B gL
  have G_Floor_pairing_of : FnOk PL w K mg base CX0 2 (He.ma K (He.ga K "Floor") "pairing_of") d_Floor_pairing_of ["self", "place", "label"] (spFPair K (He.ga K "Floor")) := ok_fPair F_Floor_pairing_of B T F_paired g_paired
  have G_reduced : FnOk PL w K mg base CX0 2 (He.ga K "reduced") d_reduced ["items", "polynomial"] (spRed K) := ok_red F_reduced B F__divided g__divided
  have G_turned_sum : FnOk PL w K mg base CX0 3 (He.ga K "turned_sum") d_turned_sum ["floor", "items", "places", "label", "sign"] (spTS K (He.ga K "Floor")) := ok_tsum F_turned_sum B T F_Floor_pairing_of G_Floor_pairing_of F_reduced g_reduced G_reduced
  have G_lowered : FnOk PL w K mg base CX0 1 (He.ga K "lowered") d_lowered ["tops", "bottom"] (spLow K) := ok_low F_lowered B gG
  have G_voices_of : FnOk PL w K mg base CX0 4 (He.ga K "voices_of") d_voices_of ["floor", "row"] (spVO K (He.ga K "Floor")) := ok_vof F_voices_of B T F_levelled g_levelled G_levelled F_turned_sum g_turned_sum G_turned_sum F_lowered g_lowered G_lowered
  have G_Floor_tops_of : FnOk PL w K mg base CX0 1 (He.ma K (He.ga K "Floor") "tops_of") d_Floor_tops_of ["self", "whole"] (spTopsOf K (He.ga K "Floor")) := ok_topsOf F_Floor_tops_of T T.aD
  have G_row_of : FnOk PL w K mg base CX0 8 (He.ga K "row_of") d_row_of ["rings", "whole"] (spRO K) := ok_rowOf F_row_of B T MT_tops_of F_Floor___init__ G_Floor___init__ F_Floor_tops_of G_Floor_tops_of F_check_whole g_check_whole G_check_whole
  have G_is_integer : FnOk PL w K mg base CX0 1 (He.ga K "is_integer") d_is_integer ["thing"] spIsInt := ok_isInt F_is_integer B
  have G_is_order : FnOk PL w K mg base CX0 2 (He.ga K "is_order") d_is_order ["thing"] (spOrd (.bl true)) := ok_isOrd F_is_order F_is_integer g_is_integer G_is_integer gO
  have G_check_order : FnOk PL w K mg base CX0 3 (He.ga K "check_order") d_check_order ["order"] (spOrd .non) := ok_chkO F_check_order F_is_order g_is_order G_is_order
  have G_units_of : FnOk PL w K mg base CX0 1 (He.ga K "units_of") d_units_of ["order"] spUnits := ok_units F_units_of B gG
  have G_is_number : FnOk PL w K mg base CX0 4 (He.ga K "is_number") d_is_number ["order", "thing"] (spIsNum K (.bl true)) := ok_isNum F_is_number B F_check_order g_check_order G_check_order F_is_integers g_is_integers G_is_integers F_is_integer g_is_integer G_is_integer F_units_of g_units_of G_units_of F_lowered g_lowered G_lowered
  have G_check_number : FnOk PL w K mg base CX0 5 (He.ga K "check_number") d_check_number ["order", "number"] (spChkN K) := ok_chkN F_check_number F_is_number g_is_number G_is_number
  have G_multiplied : FnOk PL w K mg base CX0 3 (He.ga K "multiplied") d_multiplied ["ones", "others", "polynomial"] (spMulP K) := ok_mulP F_multiplied B F_reduced g_reduced G_reduced
  have G__product : FnOk PL w K mg base CX0 4 (He.ga K "_product") d__product ["order", "one", "other"] (spProd K) := ok_prod F__product F_multiplied g_multiplied G_multiplied F_polynomial_of g_polynomial_of G_polynomial_of F_lowered g_lowered G_lowered
  have G_exchanged_tops : FnOk PL w K mg base CX0 3 (He.ga K "exchanged_tops") d_exchanged_tops ["tops", "order", "j", "polynomial"] (spExT K) := ok_exT F_exchanged_tops B F_spread g_spread F_reduced g_reduced G_reduced
  have G_loudness : FnOk PL w K mg base CX0 6 (He.ga K "loudness") d_loudness ["order", "number"] (spLoud K) := ok_loud F_loudness F_check_number g_check_number G_check_number F__product g__product G__product F_exchanged_tops g_exchanged_tops G_exchanged_tops F_polynomial_of g_polynomial_of G_polynomial_of
  have G__loudnesses : FnOk PL w K mg base CX0 9 (He.ga K "_loudnesses") d__loudnesses ["rings", "whole"] (spLouds K) := ok_louds F__loudnesses B T F_Floor___init__ G_Floor___init__ F_check_whole g_check_whole G_check_whole F_voices_of g_voices_of G_voices_of F_row_of g_row_of G_row_of F_loudness g_loudness G_loudness
  have G_judge_flat : FnOk PL w K mg base CX0 10 (He.ga K "judge_flat") d_judge_flat ["rings", "whole"] (spJudge K) := ok_judge F_judge_flat B F__loudnesses g__loudnesses G__loudnesses
  have G_is_place : FnOk PL w K mg base CX0 3 (He.ga K "is_place") d_is_place ["rings", "thing"] (spIsPl K) := ok_isPl F_is_place B F_is_integers g_is_integers G_is_integers
  have G_flat_holds : FnOk PL w K mg base CX0 10 (He.ga K "flat_holds") d_flat_holds ["rings", "whole", "thing"] (spFlatH K) := ok_flatH F_flat_holds B B_any T MT_tops_of F_Floor___init__ G_Floor___init__ F_Floor_tops_of G_Floor_tops_of F__loudnesses g__loudnesses G__loudnesses F_is_integer g_is_integer G_is_integer F_is_place g_is_place G_is_place
  have G__law_deck : FnOk PL w K mg base CX0 1 (He.ga K "_law_deck") d__law_deck ["script"] (spDeck K) := ok_deck F__law_deck B
  have G__law_draw : FnOk PL w K mg base CX0 1 (He.ga K "_law_draw") d__law_draw ["deck", "many"] spDraw := ok_draw F__law_draw B
  have G__law_pick : FnOk PL w K mg base CX0 2 (He.ga K "_law_pick") d__law_pick ["deck", "some"] (spPick K) := ok_pick F__law_pick F__law_draw g__law_draw B
  have G__law_small : FnOk PL w K mg base CX0 3 (He.ga K "_law_small") d__law_small ["deck"] (spLSmall K) := ok_lSmall F__law_small F__law_pick g__law_pick G__law_pick
  have G__law_divisor : FnOk PL w K mg base CX0 1 (He.ga K "_law_divisor") d__law_divisor ["one", "other"] spGcd := ok_gcd F__law_divisor B
  have G__law_order : FnOk PL w K mg base CX0 2 (He.ga K "_law_order") d__law_order ["rings"] (spLOrder K) := ok_lOrder F__law_order F__law_divisor g__law_divisor G__law_divisor
  have G__law_places : FnOk PL w K mg base CX0 1 (He.ga K "_law_places") d__law_places ["rings"] (spLPl K) := ok_lPl F__law_places B
  have G__law_phi : FnOk PL w K mg base CX0 5 (He.ga K "_law_phi") d__law_phi ["e"] spLPhi := ok_lPhi F__law_phi g__law_phi B
  have G__law_pairing : FnOk PL w K mg base CX0 1 (He.ga K "_law_pairing") d__law_pairing ["rings", "e", "place", "label"] (spLPr K) := ok_lPr F__law_pairing B
  have G__law_world : FnOk PL w K mg base CX0 6 (He.ga K "_law_world") d__law_world ["rings"] (spLWorld K) := ok_lWorld F__law_world B B_dict F__law_order g__law_order G__law_order F__law_places g__law_places G__law_places F__law_phi g__law_phi G__law_phi F__law_pairing g__law_pairing G__law_pairing
  have G__law_drawn_whole : FnOk PL w K mg base CX0 3 (He.ga K "_law_drawn_whole") d__law_drawn_whole ["deck", "world"] (spLDW K) := ok_lDW F__law_drawn_whole B F__law_draw g__law_draw G__law_draw F__law_pick g__law_pick G__law_pick
  have G__law_flat_whole : FnOk PL w K mg base CX0 4 (He.ga K "_law_flat_whole") d__law_flat_whole ["deck", "world"] (spLDW K) := ok_lFW F__law_flat_whole B F__law_draw g__law_draw G__law_draw F__law_pick g__law_pick G__law_pick F__law_drawn_whole g__law_drawn_whole G__law_drawn_whole
  have G__law_sum : FnOk PL w K mg base CX0 1 (He.ga K "_law_sum") d__law_sum ["rings", "place", "other", "k"] (spLSum K) := ok_lSum F__law_sum B
  have G__law_counted : FnOk PL w K mg base CX0 2 (He.ga K "_law_counted") d__law_counted ["world", "whole"] (spLCt K) := ok_lCt F__law_counted B F__law_sum g__law_sum G__law_sum
  have G__law_moved_whole : FnOk PL w K mg base CX0 3 (He.ga K "_law_moved_whole") d__law_moved_whole ["deck", "world", "whole"] (spLMW K) := ok_lMW F__law_moved_whole B F__law_draw g__law_draw G__law_draw F__law_pick g__law_pick G__law_pick F__law_sum g__law_sum G__law_sum
  have G_order_of : FnOk PL w K mg base CX0 5 (He.ga K "order_of") d_order_of ["rings"] (spOrder K) := ok_ordOf F_order_of F_check_rings g_check_rings G_check_rings F_common_order g_common_order G_common_order
  have G_is_row : FnOk PL w K mg base CX0 6 (He.ga K "is_row") d_is_row ["rings", "thing"] (spRow K (.bl true)) := ok_isRow F_is_row B F_size_of g_size_of G_size_of F_order_of g_order_of G_order_of F_is_number g_is_number G_is_number
  have G_check_row : FnOk PL w K mg base CX0 7 (He.ga K "check_row") d_check_row ["rings", "row"] (spRow K .non) := ok_chkRow F_check_row F_is_row g_is_row G_is_row
  have G_check_place : FnOk PL w K mg base CX0 5 (He.ga K "check_place") d_check_place ["rings", "place"] (spChkP K) := ok_chkP F_check_place F_check_rings g_check_rings G_check_rings F_is_place g_is_place G_is_place
  have G_voice : FnOk PL w K mg base CX0 8 (He.ga K "voice") d_voice ["rings", "row", "label"] (spVoice K) := ok_voice F_voice T F_Floor___init__ G_Floor___init__ F_check_row g_check_row G_check_row F_check_place g_check_place G_check_place F_levelled g_levelled G_levelled F_turned_sum g_turned_sum G_turned_sum F_lowered g_lowered G_lowered
  have G_number_of : FnOk PL w K mg base CX0 4 (He.ga K "number_of") d_number_of ["order", "items", "bottom"] (spNumOf K) := ok_numOf F_number_of B gI F_check_order g_check_order G_check_order F_is_integers g_is_integers G_is_integers F_is_integer g_is_integer G_is_integer F_lowered g_lowered G_lowered F_reduced g_reduced G_reduced F_polynomial_of g_polynomial_of G_polynomial_of
  have G__law_number : FnOk PL w K mg base CX0 2 (He.ga K "_law_number") d__law_number ["world", "items", "bottom"] (spLNum K) := ok_lNum F__law_number B F__law_divisor g__law_divisor G__law_divisor
  have G__law_voice : FnOk PL w K mg base CX0 3 (He.ga K "_law_voice") d__law_voice ["world", "row", "at"] (spLVo K) := ok_lVo F__law_voice B F__law_divisor g__law_divisor G__law_divisor F__law_number g__law_number G__law_number
  have G__law_whole : FnOk PL w K mg base CX0 3 (He.ga K "_law_whole") d__law_whole ["world", "row"] (spLWh K) := ok_lWh F__law_whole B F__law_number g__law_number G__law_number
  have G__law_loud : FnOk PL w K mg base CX0 4 (He.ga K "_law_loud") d__law_loud ["world", "whole", "seat"] (spLLd K) := ok_lLd F__law_loud F__law_voice g__law_voice G__law_voice F__law_whole g__law_whole G__law_whole F__law_counted g__law_counted G__law_counted
  have G__law_is_integer : FnOk PL w K mg base CX0 1 (He.ga K "_law_is_integer") d__law_is_integer ["thing", "low", "high"] spLInt := ok_lInt F__law_is_integer B
  have G__law_is_place : FnOk PL w K mg base CX0 2 (He.ga K "_law_is_place") d__law_is_place ["rings", "thing"] (spLIsPl K) := ok_lIP F__law_is_place B F__law_is_integer g__law_is_integer G__law_is_integer
  have ZB : FsB PL w K mg base := {
    f_loudness := ⟨(He.ga K "loudness"), d_loudness, F_loudness, g_loudness, G_loudness, F_loudness.bindsN fun _ _ _ _ _ _ us hl => match us, hl with | [_, _], _ => rfl⟩
    f_voice := ⟨(He.ga K "voice"), d_voice, F_voice, g_voice, G_voice, F_voice.bindsN fun _ _ _ _ _ _ us hl => match us, hl with | [_, _, _], _ => rfl⟩
    f_row_of := ⟨(He.ga K "row_of"), d_row_of, F_row_of, g_row_of, G_row_of, F_row_of.bindsN fun _ _ _ _ _ _ us hl => match us, hl with | [_, _], _ => rfl⟩
    f_number_of := ⟨(He.ga K "number_of"), d_number_of, F_number_of, g_number_of, G_number_of, F_number_of.bindsN fun _ _ _ _ _ _ us hl => match us, hl with | [_, _, _], _ => rfl⟩
    f_l_loud := ⟨(He.ga K "_law_loud"), d__law_loud, F__law_loud, g__law_loud, G__law_loud, F__law_loud.bindsN fun _ _ _ _ _ _ us hl => match us, hl with | [_, _, _], _ => rfl⟩
    f_l_is_place := ⟨(He.ga K "_law_is_place"), d__law_is_place, F__law_is_place, g__law_is_place, G__law_is_place, F__law_is_place.bindsN fun _ _ _ _ _ _ us hl => match us, hl with | [_, _], _ => rfl⟩ }
  have G__law_is_right : FnOkG PL w K mg base CX0 9 (He.ga K "_law_is_right") d__law_is_right ["world", "whole", "told", "flat"] (spLRt K) := ok_lRt F__law_is_right B ZB
  have Z : Fs PL w K mg base := {
    f_judge_flat := ⟨(He.ga K "judge_flat"), d_judge_flat, F_judge_flat, g_judge_flat, G_judge_flat, F_judge_flat.bindsN fun _ _ _ _ _ _ us hl => match us, hl with | [_, _], _ => rfl⟩
    f_flat_holds := ⟨(He.ga K "flat_holds"), d_flat_holds, F_flat_holds, g_flat_holds, G_flat_holds, F_flat_holds.bindsN fun _ _ _ _ _ _ us hl => match us, hl with | [_, _, _], _ => rfl⟩
    f_l_deck := ⟨(He.ga K "_law_deck"), d__law_deck, F__law_deck, g__law_deck, G__law_deck, F__law_deck.bindsN fun _ _ _ _ _ _ us hl => match us, hl with | [_], _ => rfl⟩
    f_l_draw := ⟨(He.ga K "_law_draw"), d__law_draw, F__law_draw, g__law_draw, G__law_draw, F__law_draw.bindsN fun _ _ _ _ _ _ us hl => match us, hl with | [_, _], _ => rfl⟩
    f_l_pick := ⟨(He.ga K "_law_pick"), d__law_pick, F__law_pick, g__law_pick, G__law_pick, F__law_pick.bindsN fun _ _ _ _ _ _ us hl => match us, hl with | [_, _], _ => rfl⟩
    f_l_small := ⟨(He.ga K "_law_small"), d__law_small, F__law_small, g__law_small, G__law_small, F__law_small.bindsN fun _ _ _ _ _ _ us hl => match us, hl with | [_], _ => rfl⟩
    f_l_world := ⟨(He.ga K "_law_world"), d__law_world, F__law_world, g__law_world, G__law_world, F__law_world.bindsN fun _ _ _ _ _ _ us hl => match us, hl with | [_], _ => rfl⟩
    f_l_flat_whole := ⟨(He.ga K "_law_flat_whole"), d__law_flat_whole, F__law_flat_whole, g__law_flat_whole, G__law_flat_whole, F__law_flat_whole.bindsN fun _ _ _ _ _ _ us hl => match us, hl with | [_, _], _ => rfl⟩
    f_l_counted := ⟨(He.ga K "_law_counted"), d__law_counted, F__law_counted, g__law_counted, G__law_counted, F__law_counted.bindsN fun _ _ _ _ _ _ us hl => match us, hl with | [_, _], _ => rfl⟩
    f_l_moved_whole := ⟨(He.ga K "_law_moved_whole"), d__law_moved_whole, F__law_moved_whole, g__law_moved_whole, G__law_moved_whole, F__law_moved_whole.bindsN fun _ _ _ _ _ _ us hl => match us, hl with | [_, _, _], _ => rfl⟩
    f_l_is_right := ⟨(He.ga K "_law_is_right"), d__law_is_right, F__law_is_right, g__law_is_right, G__law_is_right, F__law_is_right.bindsN fun _ _ _ _ _ _ us hl => match us, hl with | [_, _, _, _], _ => rfl⟩ }
  exact ok_law F_law B  Z (A := callerA) rfl ⟨rfl, by decide, by decide⟩ [] s H args us vs Q E e0 hb r hsp
end
end K45
open PySem PySem.W PySem.Calls PyProof.Rows
theorem PySem.Challenge.cw_ringvoices_k45_whole_flat_rows_holds : PySem.Challenge.rw_ringvoices_k45_whole_flat_rows.Holds := by
  refine K45.hd0 ?_
  refine K45.walk_ofA (l := K45.LW) (n := 63) (x := "script") (CX := L2.CX0) rfl (by decide) rfl ?F (fun _ _ _ _ z => z)
  intro w mg fa h Y G hmg0
  have KX := kIn_of Y
  have hmg : mg ("law" : PySem.Str) = some (.ref fa) := hmg0
  obtain ⟨fd, hb, hF⟩ := K45.facts (w := w) KX G hmg (by unfold He.SaysD; kernel_rfl) (by kernel_rfl)
  exact ⟨_, fd, K45.spLaw _, KX, hb, fun H a ns hl _ hS => ⟨a, ns, rfl, hS, hl, fun _ => rfl⟩, hF⟩
