import PyProof.Rows.All
import Wide.All
import OpenK.AllK
import Wide.FinOn
import KE.KStateDown
import Lean
import HandS.ForMost
import HandS.Ends
import HandS.More
import HandS.Words
import HandS.Defaults
import HandS.Style
import HandS.Star
import HandS.Conv
import HandS.Small
import HandS.TupAny
import HandS.TupMul
import HandS.Gcd
import HandS.IsInst
import HandS.Zip
import HandS.SetBool
import HandS.TupSets
import HandS.Head0
import HandS.Head1
import HandS.Head2
import HandS.HeadEnd
import HandS.HeadHook1
import HandS.HeadHook2
import HandS.HeadHook4
import HandS.Walk
import PyProof.MinMaxWalk
import PyProof.MaxThree
import KE.GoesNew
import PyProof.WalksMore
import PyProof.ConsumeWalk
import PyProof.ListMulRoad
import PyProof.FactsAll.tuple_2
import HandS.Wide
import PyProof.ReprRoads
import PyProof.ReprBulk
import PySem.Challenge.RW_ringvoices_k08_whole_voices_and_rows_bac
set_option Elab.async false
set_option linter.all false
set_option maxRecDepth 100000
set_option maxHeartbeats 0
/-! What the defs reckon, as plain functions. -/
namespace K08
def rgL (lo : Int) (n : Nat) : List Int := (List.range n).map fun (i : Nat) => lo + (i : Int)
theorem rgL_succ (lo : Int) (n : Nat) : rgL lo (n + 1) = rgL lo n ++ [lo + (n : Int)] := by
  unfold rgL
  rw [List.range_succ, List.map_append]
  rfl
theorem rgL_len (lo : Int) (n : Nat) : (rgL lo n).length = n := by simp [rgL]
def gcdI (a b : Int) : Int := ((Nat.gcd a.natAbs b.natAbs : Nat) : Int)
def unitsL (e : Int) : List Int := (rgL 1 e.toNat).filter fun j => decide (gcdI j e = 1)
def primesGo (n : Int) : Nat → List Int
  | 0 => []
  | i + 1 => if (decide (n % (2 + (i : Int)) = 0) && ((primesGo n i).map fun p => !decide ((2 + (i : Int)) % p = 0)).all id) = true then primesGo n i ++ [2 + (i : Int)] else primesGo n i
def primesL (n : Int) : List Int := primesGo n (n + 1 - 2).toNat
def plStep (ps : List (List Int)) (len : Int) : List (List Int) := ps.flatMap fun p => (rgL 0 len.toNat).map fun i => p ++ [i]
def placesL (rings : List Int) : List (List Int) := rings.foldl plStep [[]]
def lcmI (a b : Int) : Int := (((Nat.lcm 1 a.natAbs).lcm b.natAbs : Nat) : Int)
def ordL (rings : List Int) : Int := rings.foldl lcmI 1
def repL (rings place : List Int) (many : Int) : List Int := (List.range rings.length).map fun k => place.getD k 0 * many % rings.getD k 0
def pairGo (rings : List Int) (e : Int) (place label : List Int) : Nat → Int
  | 0 => 0
  | k + 1 => pairGo rings e place label k + place.getD k 0 * label.getD k 0 * (e / rings.getD k 0)
def pairL (rings : List Int) (e : Int) (place label : List Int) : Int := pairGo rings e place label rings.length % e
def strN (items : List Int) (by_ : Nat) : Nat → List Int
  | 0 => List.replicate ((items.length - 1) * by_ + 1) 0
  | i + 1 => (strN items by_ i).set (i * by_) (items.getD i 0)
def strL (items : List Int) (by_ : Nat) : List Int := strN items by_ items.length
def subN (h : Int) (dv : List Int) (at_ : Nat) (rest : List Int) : Nat → List Int
  | 0 => rest
  | k + 1 => (subN h dv at_ rest k).set (at_ + k) ((subN h dv at_ rest k).getD (at_ + k) 0 - h * dv.getD k 0)
def divStep (deg : Nat) (dv rest : List Int) : List Int := subN (rest.getLastD 0) dv (rest.length - 1 - deg) rest.dropLast deg
def divGo (deg : Nat) (dv : List Int) : Nat → List Int → List Int → List Int × List Int
  | 0, rest, quo => (quo, rest)
  | n + 1, rest, quo => divGo deg dv n (divStep deg dv rest) (quo ++ [rest.getLastD 0])
def divL (items dv : List Int) : List Int × List Int :=
  let r := divGo (dv.length - 1) dv (items.length - (dv.length - 1)) items []
  (r.1.reverse, r.2)
def redL (items poly : List Int) : List Int := (divL items poly).2 ++ List.replicate (poly.length - 1 - (divL items poly).2.length) 0
def polyStep (s : List Int × Int) (p : Int) : List Int × Int := ((divL (strL s.1 p.toNat) s.1).1, s.2 / p)
def polyL (e : Int) : List Int :=
  let s := (primesL e).foldl polyStep ([-1, 1], e)
  strL s.1 s.2.toNat
def cntL (rings : List Int) (e : Int) (place : List Int) (ps : List (List Int)) : List Int :=
  (List.range e.toNat).map fun (i : Nat) => ((ps.countP fun q => decide (pairL rings e place q = (i : Int)) : Nat) : Int)
/-- the class of a label: those of all places that are the label taken j times -/
def kinS (rings : List Int) (label : List Int) : List (List Int) := (unitsL (ordL rings)).map fun j => repL rings label j
def canL (rings : List Int) (label : List Int) : List (List Int) := (placesL rings).filter fun q => decide (q ∈ kinS rings label)
def csL (rings : List Int) (e : Int) (poly : List Int) (ps : List (List Int)) (place : List Int) : Int := (redL (cntL rings e place ps) poly).getD 0 0
/-! ### the law's own -/
def signGo : List Int → Int → Int → Int
  | [], f, _ => f
  | p :: ps, f, left => if left % p = 0 then (if (left / p) % p = 0 then 0 else signGo ps (-f) (left / p)) else signGo ps f left
def signL (m : Int) : Int := signGo [2, 3, 5, 7, 11, 13, 17, 19, 23, 29, 31, 37, 41, 43, 47, 53, 59] 1 m
def ordGo (rings label : List Int) : Int :=
  (label.zip rings).foldl (fun m xl => let far := xl.2 / gcdI xl.2 xl.1; m * far / gcdI m far) 1
def ramL (m p q : Int) : Int := -- m, the pairing, e / m
  let gap := gcdI m (p / q)
  (((rgL 1 gap.toNat).filter fun d => decide (gap % d = 0)).map fun d => d * signL (m / d)).sum
def dueL (rings : List Int) (e : Int) (label place : List Int) : Int := ramL (ordGo rings label) (pairL rings e place label) (e / ordGo rings label)
def RR : List (List Int) := [[2], [3], [4], [5], [6], [2, 2], [2, 3], [7], [8], [2, 4], [3, 3], [2, 2, 2], [9], [10], [12], [2, 6], [3, 4], [4, 4], [16], [2, 2, 3], [2, 8], [2, 2, 2, 2], [15], [3, 5], [13]]
def repsGo (rings : List Int) : List (List Int) → List (List Int) → List (List Int) → List (List Int)
  | [], _, out => out
  | l :: ls, told, out => if decide (l ∈ told) = true then repsGo rings ls told out else repsGo rings ls (told ++ canL rings l) (out ++ [l])
def repsL (rings : List Int) : List (List Int) := repsGo rings (placesL rings) [] []
end K08

/-! What the defs reckon with numbers, as plain functions. -/
namespace K08
def ER : List Int := [2, 3, 4, 5, 6, 7, 8, 9, 10, 12, 16, 15, 13]
abbrev Num := List Int × Int
def lowC (tops : List Int) (b : Int) : Int := tops.foldl gcdI b
def lowL (tops : List Int) (b : Int) : Num := (tops.map fun t => t / lowC tops b, b / lowC tops b)
def levB (ns : List Num) : Int := ns.foldl (fun b n => lcmI b n.2) 1
def levT (ns : List Num) : List (List Int) := ns.map fun n => n.1.map fun t => t * (levB ns / n.2)
def stepT (e : Int) (tot : List Int) (j v : Int) : List Int := tot.set (j % e).toNat (tot.getD (j % e).toNat 0 + v)
def addN (e p : Int) (tops : List Int) (tot : List Int) : Nat → List Int
  | 0 => tot
  | k + 1 => stepT e (addN e p tops tot k) (p + (k : Int)) (tops.getD k 0)
def tsGo (r : List Int) (e sg : Int) (label : List Int) (items : List (List Int)) : Nat → List Int
  | 0 => List.replicate e.toNat 0
  | i + 1 => addN e (sg * pairL r e ((placesL r).getD i []) label) (items.getD i []) (tsGo r e sg label items i) (items.getD i []).length
def tsL (r : List Int) (sg : Int) (label : List Int) (items : List (List Int)) : List Int := redL (tsGo r (ordL r) sg label items items.length) (polyL (ordL r))
def voL (r : List Int) (ns : List Num) : List Num := (placesL r).map fun l => lowL (tsL r 1 l (levT ns)) (levB ns)
def mulR (one : Int) (i : Nat) (others tot : List Int) : Nat → List Int
  | 0 => tot
  | k + 1 => (mulR one i others tot k).set (i + k) ((mulR one i others tot k).getD (i + k) 0 + one * others.getD k 0)
def mulGo (ones others : List Int) : Nat → List Int
  | 0 => List.replicate (ones.length + others.length - 1) 0
  | i + 1 => mulR (ones.getD i 0) i others (mulGo ones others i) others.length
def mulL (ones others dv : List Int) : List Int := redL (mulGo ones others ones.length) dv
def prodL (e : Int) (a b : Num) : Num := lowL (mulL a.1 b.1 (polyL e)) (a.2 * b.2)
def turnL (e p : Int) : Num := (redL (List.replicate (p % e).toNat 0 ++ [1]) (polyL e), 1)
def sumT (a b : Num) (sg : Int) : List Int := (List.range a.1.length).map fun k => a.1.getD k 0 * b.2 + sg * b.1.getD k 0 * a.2
def sumN (a b : Num) (sg : Int) : Num := lowL (sumT a b sg) (a.2 * b.2)
def rbL (r : List Int) (ns : List Num) : List Num := (placesL r).map fun l => lowL (tsL r (-1) l (levT ns)) (levB ns * ((placesL r).length : Nat))
def someN (ns : List Int) : Bool := ns.any fun n => n != 0
def filL (r : List Int) (ns : List Num) (i : Nat) : List (List Int) := (((placesL r).zip ns).take i).filterMap fun pn => if someN pn.2.1 = true then some pn.1 else none
def notWh (n : Num) : Bool := (!decide (n.2 = 1)) || someN (n.1.drop 1)
def whN (r : List Int) (x : Int) : Num := (x :: List.replicate ((polyL (ordL r)).length - 2) 0, 1)
def rofL (r xs : List Int) : List Num := xs.map (whN r)
def sizeL (r : List Int) : Int := r.foldl (fun a b => a * b) 1
structure NumOk (e : Int) (n : Num) : Prop where
  len : n.1.length = (unitsL e).length
  pos : 1 ≤ n.2
  big : n.2 ≤ 1000
  low : lowL n.1 n.2 = n
structure RowOk (r : List Int) (ns : List Num) : Prop where
  len : ns.length = (placesL r).length
  item : ∀ n ∈ ns, 1 ≤ n.2 ∧ n.2 ≤ 1000 ∧ n.1.length ≤ 1000
  lev : ∀ i ≤ ns.length, 1 ≤ levB (ns.take i) ∧ levB (ns.take i) ≤ 1000
structure RowG (r : List Int) (ns : List Num) : Prop where
  ok : RowOk r ns
  num : ∀ n ∈ ns, NumOk (ordL r) n
end K08

/-! Sums; the remainder by a polynomial, item by item. -/
namespace K08
def sm : Nat → (Nat → Int) → Int
  | 0, _ => 0
  | n + 1, f => sm n f + f n
theorem sm_congr {f g : Nat → Int} : ∀ {n : Nat}, (∀ i, i < n → f i = g i) → sm n f = sm n g
  | 0, _ => rfl
  | n + 1, h => by
    show sm n f + f n = sm n g + g n
    rw [sm_congr fun i hi => h i (by omega), h n (by omega)]
theorem sm_add {f g : Nat → Int} : ∀ n : Nat, sm n (fun i => f i + g i) = sm n f + sm n g
  | 0 => rfl
  | n + 1 => by
    show sm n (fun i => f i + g i) + (f n + g n) = sm n f + f n + (sm n g + g n)
    rw [sm_add n]
    omega
theorem sm_mul {f : Nat → Int} (c : Int) : ∀ n : Nat, sm n (fun i => c * f i) = c * sm n f
  | 0 => by show (0 : Int) = c * 0; omega
  | n + 1 => by
    show sm n (fun i => c * f i) + c * f n = c * (sm n f + f n)
    rw [sm_mul c n, Int.mul_add]
theorem sm_mulR {f : Nat → Int} (c : Int) (n : Nat) : sm n (fun i => f i * c) = sm n f * c := by
  rw [Int.mul_comm, ← sm_mul]
  exact sm_congr fun i _ => Int.mul_comm _ _
theorem sm_neg {f : Nat → Int} : ∀ n : Nat, sm n (fun i => - f i) = - sm n f
  | 0 => rfl
  | n + 1 => by
    show sm n (fun i => - f i) + - f n = - (sm n f + f n)
    rw [sm_neg n]
    omega
theorem sm_zero : ∀ n : Nat, sm n (fun _ => 0) = 0
  | 0 => rfl
  | n + 1 => by
    show sm n (fun _ => 0) + 0 = 0
    rw [sm_zero n]
    rfl
theorem sm_swap {f : Nat → Nat → Int} (m : Nat) : ∀ n : Nat, sm n (fun i => sm m (fun j => f i j)) = sm m (fun j => sm n (fun i => f i j))
  | 0 => (sm_zero m).symm
  | n + 1 => by
    show sm n (fun i => sm m (fun j => f i j)) + sm m (fun j => f n j) = sm m (fun j => sm n (fun i => f i j) + f n j)
    rw [sm_swap m n, sm_add]
theorem sm_delta {f : Nat → Int} {i0 : Nat} : ∀ {n : Nat}, sm n (fun i => if i = i0 then f i else 0) = if i0 < n then f i0 else 0
  | 0 => by simp [sm]
  | n + 1 => by
    show sm n (fun i => if i = i0 then f i else 0) + (if n = i0 then f n else 0) = _
    rw [sm_delta]
    by_cases h1 : n = i0
    · subst h1
      simp
    · by_cases h2 : i0 < n
      · rw [if_pos h2, if_neg h1, if_pos (by omega)]
        omega
      · rw [if_neg h2, if_neg h1, if_neg (by omega)]
        rfl
/-- the remainder of the powers -/
def unitV (deg j : Nat) : List Int := (List.range deg).map fun i => if i = j then 1 else 0
def cvj (deg : Nat) (dv : List Int) (j : Nat) : Nat → List Int
  | 0 => unitV deg j
  | n + 1 => cvj deg dv j n ++ [- sm deg (fun k => dv.getD k 0 * (cvj deg dv j n).getD (n + k) 0)]
def Tz (deg : Nat) (dv : List Int) (j i : Nat) : Int := (cvj deg dv j (i + 1)).getD i 0
theorem cvj_len (deg : Nat) (dv : List Int) (j : Nat) : ∀ n, (cvj deg dv j n).length = deg + n
  | 0 => by simp [cvj, unitV]
  | n + 1 => by
    show (cvj deg dv j n ++ [_]).length = deg + (n + 1)
    rw [List.length_append, cvj_len deg dv j n]
    rfl
theorem cvj_pre (deg : Nat) (dv : List Int) (j : Nat) {i : Nat} : ∀ m n, i < deg + n → (cvj deg dv j (n + m)).getD i 0 = (cvj deg dv j n).getD i 0
  | 0, n, _ => rfl
  | m + 1, n, h => by
    show (cvj deg dv j (n + m) ++ [_]).getD i 0 = _
    rw [← cvj_pre deg dv j m n h, List.getD_eq_getElem?_getD, List.getElem?_append_left (by rw [cvj_len]; omega), ← List.getD_eq_getElem?_getD]
theorem cvj_T {deg : Nat} {dv : List Int} {j i n : Nat} (h : i < deg + n) : (cvj deg dv j n).getD i 0 = Tz deg dv j i := by
  unfold Tz
  rcases Nat.le_total n (i + 1) with z | z
  · obtain ⟨m, hm⟩ := Nat.le.dest z
    rw [← hm, cvj_pre deg dv j m n h]
  · obtain ⟨m, hm⟩ := Nat.le.dest z
    rw [← hm, cvj_pre deg dv j m (i + 1) (by omega)]
theorem T_lo {deg : Nat} {dv : List Int} {j i : Nat} (h : i < deg) : Tz deg dv j i = if i = j then 1 else 0 := by
  rw [← cvj_T (n := 0) (by omega)]
  show (unitV deg j).getD i 0 = _
  unfold unitV
  rw [List.getD_eq_getElem?_getD, List.getElem?_map, List.getElem?_range h]
  rfl
theorem T_rec (deg : Nat) (dv : List Int) (j a : Nat) : Tz deg dv j (a + deg) = - sm deg (fun k => dv.getD k 0 * Tz deg dv j (a + k)) := by
  rw [← cvj_T (n := a + 1) (by omega)]
  show (cvj deg dv j a ++ [_]).getD (a + deg) 0 = _
  rw [List.getD_eq_getElem?_getD, List.getElem?_append_right (by rw [cvj_len]; omega), cvj_len, show a + deg - (deg + a) = 0 by omega]
  show - sm deg _ = - sm deg _
  congr 1
  refine sm_congr fun k hk => ?_
  rw [cvj_T (by omega)]
/-- a sum of powers, item j of what is left of it -/
def ph (deg : Nat) (dv : List Int) (j : Nat) (xs : List Int) : Int := sm xs.length (fun i => xs.getD i 0 * Tz deg dv j i)
theorem getD_app_lt {xs : List Int} {h : Int} {i : Nat} (hi : i < xs.length) : (xs ++ [h]).getD i 0 = xs.getD i 0 := by
  rw [List.getD_eq_getElem?_getD, List.getElem?_append_left hi, ← List.getD_eq_getElem?_getD]
theorem getD_app_len {xs : List Int} {h : Int} : (xs ++ [h]).getD xs.length 0 = h := by
  rw [List.getD_eq_getElem?_getD, List.getElem?_concat_length]
  rfl
theorem ph_snoc (deg : Nat) (dv : List Int) (j : Nat) (xs : List Int) (h : Int) : ph deg dv j (xs ++ [h]) = ph deg dv j xs + h * Tz deg dv j xs.length := by
  unfold ph
  rw [List.length_append]
  show sm xs.length (fun i => (xs ++ [h]).getD i 0 * Tz deg dv j i) + (xs ++ [h]).getD xs.length 0 * Tz deg dv j xs.length = _
  rw [getD_app_len]
  congr 1
  exact sm_congr fun i hi => by rw [getD_app_lt hi]
theorem getD_set {xs : List Int} {i k : Nat} {v : Int} (hi : i < xs.length) : (xs.set i v).getD k 0 = if k = i then v else xs.getD k 0 := by
  rw [List.getD_eq_getElem?_getD, List.getElem?_set]
  by_cases h : i = k
  · subst h
    simp [hi]
  · rw [if_neg h, if_neg (fun z => h z.symm), List.getD_eq_getElem?_getD]
theorem sm_set {xs : List Int} {c : Nat → Int} {i : Nat} {v : Int} (hi : i < xs.length) : sm xs.length (fun k => (xs.set i v).getD k 0 * c k) = sm xs.length (fun k => xs.getD k 0 * c k) + (v - xs.getD i 0) * c i := by
  have e : sm xs.length (fun k => (xs.set i v).getD k 0 * c k) = sm xs.length (fun k => xs.getD k 0 * c k + if k = i then (v - xs.getD i 0) * c i else 0) := by
    refine sm_congr fun k hk => ?_
    rw [getD_set hi]
    by_cases h : k = i
    · subst h
      rw [if_pos rfl, if_pos rfl, Int.sub_mul]
      omega
    · rw [if_neg h, if_neg h]
      omega
  rw [e, sm_add, sm_delta (f := fun _ => (v - xs.getD i 0) * c i), if_pos hi]
theorem ph_set (deg : Nat) (dv : List Int) (j : Nat) {xs : List Int} {i : Nat} {v : Int} (hi : i < xs.length) : ph deg dv j (xs.set i v) = ph deg dv j xs + (v - xs.getD i 0) * Tz deg dv j i := by
  unfold ph
  rw [List.length_set]
  exact sm_set hi
theorem subN_len' (h : Int) (dv : List Int) (a : Nat) (r : List Int) : ∀ k, (subN h dv a r k).length = r.length
  | 0 => rfl
  | k + 1 => by
    show (List.set _ _ _).length = _
    rw [List.length_set, subN_len' h dv a r k]
theorem ph_sub (deg : Nat) (dv : List Int) (j : Nat) (h : Int) (n : Nat) (rest : List Int) : ∀ k, n + k ≤ rest.length → ph deg dv j (subN h dv n rest k) = ph deg dv j rest - h * sm k (fun m => dv.getD m 0 * Tz deg dv j (n + m))
  | 0, _ => by show ph deg dv j rest = ph deg dv j rest - h * 0; omega
  | k + 1, hk => by
    show ph deg dv j ((subN h dv n rest k).set (n + k) ((subN h dv n rest k).getD (n + k) 0 - h * dv.getD k 0)) = ph deg dv j rest - h * (sm k (fun m => dv.getD m 0 * Tz deg dv j (n + m)) + dv.getD k 0 * Tz deg dv j (n + k))
    rw [ph_set _ _ _ (by rw [subN_len']; omega), ph_sub deg dv j h n rest k (by omega), Int.mul_add, ← Int.mul_assoc]
    have e : (subN h dv n rest k).getD (n + k) 0 - h * dv.getD k 0 - (subN h dv n rest k).getD (n + k) 0 = -(h * dv.getD k 0) := by omega
    rw [e, Int.neg_mul]
    omega
theorem snoc_last' : ∀ (l : List Int), l ≠ [] → l.dropLast ++ [l.getLastD 0] = l := fun l h => by
  have := List.dropLast_concat_getLast h
  have e : l.getLastD 0 = l.getLast h := by
    cases l with
    | nil => exact absurd rfl h
    | cons a l => simp [List.getLastD, List.getLast?_cons]
  rw [e]
  exact this
theorem ph_low (deg : Nat) (dv : List Int) {j : Nat} {rest : List Int} (hl : rest.length ≤ deg) : ph deg dv j rest = rest.getD j 0 := by
  have e : ph deg dv j rest = sm rest.length (fun i => if i = j then rest.getD i 0 else 0) := by
    unfold ph
    refine sm_congr fun i hi => ?_
    rw [T_lo (by omega)]
    by_cases h : i = j
    · rw [if_pos h, if_pos h]; omega
    · rw [if_neg h, if_neg h]; omega
  rw [e, sm_delta]
  by_cases h : j < rest.length
  · rw [if_pos h]
  · rw [if_neg h, List.getD_eq_getElem?_getD, List.getElem?_eq_none (by omega)]
    rfl
theorem div_ph (deg : Nat) (dv : List Int) (j : Nat) : ∀ n rest quo, rest.length = deg + n → (divGo deg dv n rest quo).2.getD j 0 = ph deg dv j rest
  | 0, rest, quo, hl => by
    show rest.getD j 0 = _
    rw [ph_low deg dv (by omega)]
  | n + 1, rest, quo, hl => by
    have hne : rest ≠ [] := fun e => by rw [e] at hl; simp at hl
    have hn : rest.length - 1 - deg = n := by omega
    have hdl : rest.dropLast.length = deg + n := by rw [List.length_dropLast]; omega
    have hds : (divStep deg dv rest).length = deg + n := by
      unfold divStep
      rw [subN_len', hdl]
    show (divGo deg dv n (divStep deg dv rest) (quo ++ [rest.getLastD 0])).2.getD j 0 = _
    rw [div_ph deg dv j n _ _ hds]
    have e2 : ph deg dv j rest = ph deg dv j (rest.dropLast ++ [rest.getLastD 0]) := by rw [snoc_last' rest hne]
    rw [e2, ph_snoc]
    unfold divStep
    rw [hn, ph_sub _ _ _ _ _ _ _ (by omega), hdl, Nat.add_comm deg n, T_rec, Int.mul_neg]
    omega
theorem red_ph {xs dv : List Int} (h1 : 1 ≤ dv.length) {j : Nat} (hj : j < dv.length - 1) : (redL xs dv).getD j 0 = ph (dv.length - 1) dv j xs := by
  by_cases h2 : dv.length - 1 ≤ xs.length
  · have e := div_ph (dv.length - 1) dv j (xs.length - (dv.length - 1)) xs [] (by omega)
    rw [← e]
    have hl : (divL xs dv).2 = (divGo (dv.length - 1) dv (xs.length - (dv.length - 1)) xs []).2 := rfl
    have gl : ∀ n rest quo, rest.length = (dv.length - 1) + n → (divGo (dv.length - 1) dv n rest quo).2.length = dv.length - 1 := by
      intro n
      induction n with
      | zero => intro rest quo h; simpa [divGo] using h
      | succ n ih =>
        intro rest quo h
        unfold divGo
        refine ih _ _ ?_
        show (subN _ _ _ _ _).length = _
        rw [subN_len', List.length_dropLast]
        omega
    have g := gl (xs.length - (dv.length - 1)) xs [] (by omega)
    unfold redL
    rw [hl, List.getD_eq_getElem?_getD, List.getElem?_append_left (by omega), ← List.getD_eq_getElem?_getD]
  · have e : xs.length - (dv.length - 1) = 0 := by omega
    have hl : (divL xs dv).2 = xs := by
      unfold divL
      rw [e]
      rfl
    rw [ph_low _ _ (by omega)]
    unfold redL
    rw [hl, List.getD_eq_getElem?_getD, List.getD_eq_getElem?_getD]
    by_cases h : j < xs.length
    · rw [List.getElem?_append_left h]
    · rw [List.getElem?_append_right (by omega), List.getElem?_eq_none (by omega : xs.length ≤ j), List.getElem?_replicate]
      split <;> rfl
/-! ### turns -/
/-- a sum of powers times the turn to the power p, item j -/
def tn (deg : Nat) (dv : List Int) (p : Nat) (v : Nat → Int) (j : Nat) : Int := sm deg (fun k => v k * Tz deg dv j (p + k))
theorem strong {P : Nat → Prop} (h : ∀ n, (∀ m, m < n → P m) → P n) (n : Nat) : P n := Nat.strongRecOn n h
theorem tn_T (deg : Nat) (dv : List Int) (p : Nat) (j : Nat) (hd : 1 ≤ deg) : ∀ m, tn deg dv p (fun k => Tz deg dv k m) j = Tz deg dv j (p + m) := by
  refine strong fun m ih => ?_
  by_cases h : m < deg
  · unfold tn
    have e : sm deg (fun k => Tz deg dv k m * Tz deg dv j (p + k)) = sm deg (fun k => if k = m then Tz deg dv j (p + k) else 0) := by
      refine sm_congr fun k hk => ?_
      rw [T_lo h]
      by_cases q : m = k
      · rw [if_pos q, if_pos q.symm]; omega
      · rw [if_neg q, if_neg (fun z => q z.symm)]; omega
    rw [e, sm_delta, if_pos h]
  · obtain ⟨a, rfl⟩ : ∃ a, m = a + deg := ⟨m - deg, by omega⟩
    have e1 : p + (a + deg) = (p + a) + deg := by omega
    rw [e1, T_rec]
    have e2 : ∀ i, i < deg → dv.getD i 0 * Tz deg dv j (p + a + i) = dv.getD i 0 * tn deg dv p (fun k => Tz deg dv k (a + i)) j := fun i hi => by
      rw [ih (a + i) (by omega), Nat.add_assoc]
    rw [sm_congr e2]
    unfold tn
    have e3 : ∀ k, k < deg → Tz deg dv k (a + deg) * Tz deg dv j (p + k) = - sm deg (fun i => dv.getD i 0 * (Tz deg dv k (a + i) * Tz deg dv j (p + k))) := fun k _ => by
      rw [T_rec, Int.neg_mul, ← sm_mulR]
      congr 1
      exact sm_congr fun i _ => Int.mul_assoc _ _ _
    rw [sm_congr e3, sm_neg, sm_swap]
    congr 1
    exact sm_congr fun i _ => sm_mul _ _
theorem tn_tn (deg : Nat) (dv : List Int) (p q : Nat) (v : Nat → Int) (j : Nat) (hd : 1 ≤ deg) : tn deg dv p (tn deg dv q v) j = tn deg dv (p + q) v j := by
  show sm deg (fun k => sm deg (fun i => v i * Tz deg dv k (q + i)) * Tz deg dv j (p + k)) = sm deg (fun i => v i * Tz deg dv j (p + q + i))
  have e1 : ∀ k, k < deg → sm deg (fun i => v i * Tz deg dv k (q + i)) * Tz deg dv j (p + k) = sm deg (fun i => v i * (Tz deg dv k (q + i) * Tz deg dv j (p + k))) := fun k _ => by
    rw [← sm_mulR]
    exact sm_congr fun i _ => Int.mul_assoc _ _ _
  rw [sm_congr e1, sm_swap]
  refine sm_congr fun i _ => ?_
  rw [sm_mul]
  congr 1
  have := tn_T deg dv p j hd (q + i)
  unfold tn at this
  rw [this, Nat.add_assoc]
theorem tn_congr {deg : Nat} {dv : List Int} {p j : Nat} {v w : Nat → Int} (h : ∀ k, k < deg → v k = w k) : tn deg dv p v j = tn deg dv p w j := sm_congr fun k hk => by rw [h k hk]
theorem tn_add (deg : Nat) (dv : List Int) (p j : Nat) (v w : Nat → Int) : tn deg dv p (fun k => v k + w k) j = tn deg dv p v j + tn deg dv p w j := by
  unfold tn
  rw [← sm_add]
  exact sm_congr fun k _ => Int.add_mul _ _ _
theorem tn_mul (deg : Nat) (dv : List Int) (p j : Nat) (c : Int) (v : Nat → Int) : tn deg dv p (fun k => c * v k) j = c * tn deg dv p v j := by
  unfold tn
  rw [← sm_mul]
  exact sm_congr fun k _ => Int.mul_assoc _ _ _
theorem tn_sm (deg : Nat) (dv : List Int) (p j n : Nat) (f : Nat → Nat → Int) : tn deg dv p (fun k => sm n (fun i => f i k)) j = sm n (fun i => tn deg dv p (f i) j) := by
  unfold tn
  rw [sm_swap]
  exact sm_congr fun k _ => (sm_mulR _ _).symm
theorem tn_zero {deg : Nat} {dv : List Int} {v : Nat → Int} {j : Nat} (hj : j < deg) : tn deg dv 0 v j = v j := by
  unfold tn
  have e : sm deg (fun k => v k * Tz deg dv j (0 + k)) = sm deg (fun k => if k = j then v k else 0) := sm_congr fun k hk => by
    rw [Nat.zero_add, T_lo hk]
    by_cases h : k = j
    · rw [if_pos h, if_pos h]; omega
    · rw [if_neg h, if_neg h]; omega
  rw [e, sm_delta, if_pos hj]
/-- comes round after e steps -/
theorem T_per {deg : Nat} {dv : List Int} {j e : Nat} (hd : 1 ≤ deg) (h : ∀ i, i < deg → Tz deg dv j (i + e) = Tz deg dv j i) : ∀ i, Tz deg dv j (i + e) = Tz deg dv j i := by
  refine strong fun m ih => ?_
  by_cases hm : m < deg
  · exact h m hm
  · obtain ⟨a, rfl⟩ : ∃ a, m = a + deg := ⟨m - deg, by omega⟩
    rw [show a + deg + e = (a + e) + deg by omega, T_rec, T_rec]
    congr 1
    refine sm_congr fun k hk => ?_
    rw [show a + e + k = a + k + e by omega, ih (a + k) (by omega)]
theorem T_mod {deg : Nat} {dv : List Int} {j e : Nat} (h : ∀ i, Tz deg dv j (i + e) = Tz deg dv j i) : ∀ q i, Tz deg dv j (i + e * q) = Tz deg dv j i
  | 0, i => rfl
  | q + 1, i => by
    rw [Nat.mul_succ, ← Nat.add_assoc, h, T_mod h q i]
theorem T_eqv {deg : Nat} {dv : List Int} {j e : Nat} (h : ∀ i, Tz deg dv j (i + e) = Tz deg dv j i) {a b : Nat} (hab : a % e = b % e) : Tz deg dv j a = Tz deg dv j b := by
  have ha := Nat.mod_add_div a e
  have hb := Nat.mod_add_div b e
  rw [← ha, ← hb, T_mod h, T_mod h, hab]
end K08

/-! Numbers in their lowest terms; sums over places and their way back. -/
namespace K08
/-! ### lowest terms -/
theorem gcdI_nonneg (a b : Int) : 0 ≤ gcdI a b := Int.natCast_nonneg _
theorem gcdI_dvdL (a b : Int) : gcdI a b ∣ a := by
  unfold gcdI
  exact Int.ofNat_dvd_left.mpr (Nat.gcd_dvd_left _ _)
theorem gcdI_dvdR (a b : Int) : gcdI a b ∣ b := by
  unfold gcdI
  exact Int.ofNat_dvd_left.mpr (Nat.gcd_dvd_right _ _)
theorem gcdI_mul {c : Int} (hc : 0 ≤ c) (a b : Int) : gcdI (c * a) (c * b) = c * gcdI a b := by
  unfold gcdI
  rw [Int.natAbs_mul, Int.natAbs_mul, Nat.gcd_mul_left, Int.natCast_mul]
  have : ((c.natAbs : Nat) : Int) = c := by omega
  rw [this]
theorem gcdI_pos {a b : Int} (h : 1 ≤ a) : 1 ≤ gcdI a b := by
  unfold gcdI
  have h1 := Nat.gcd_pos_of_pos_left b.natAbs (show 0 < a.natAbs by omega)
  omega
theorem lowC_pos : ∀ (tops : List Int) (b : Int), 1 ≤ b → 1 ≤ lowC tops b
  | [], b, h => h
  | t :: ts, b, h => lowC_pos ts (gcdI b t) (gcdI_pos h)
theorem lowC_dvd : ∀ (tops : List Int) (b : Int), lowC tops b ∣ b ∧ ∀ t ∈ tops, lowC tops b ∣ t
  | [], b => ⟨Int.dvd_refl _, fun t h => absurd h (by simp)⟩
  | t :: ts, b => by
    have ih := lowC_dvd ts (gcdI b t)
    show lowC ts (gcdI b t) ∣ b ∧ _
    refine ⟨Int.dvd_trans ih.1 (gcdI_dvdL _ _), fun x hx => ?_⟩
    rcases List.mem_cons.mp hx with rfl | hx
    · exact Int.dvd_trans ih.1 (gcdI_dvdR _ _)
    · exact ih.2 x hx
theorem lowC_mul {c : Int} (hc : 0 ≤ c) : ∀ (tops : List Int) (b : Int), lowC (tops.map fun t => c * t) (c * b) = c * lowC tops b
  | [], b => rfl
  | t :: ts, b => by
    show lowC (ts.map fun t => c * t) (gcdI (c * b) (c * t)) = c * lowC ts (gcdI b t)
    rw [gcdI_mul hc, lowC_mul hc ts]
theorem lowL_mul {c : Int} (hc : 1 ≤ c) (tops : List Int) (b : Int) : lowL (tops.map fun t => c * t) (c * b) = lowL tops b := by
  unfold lowL
  rw [lowC_mul (by omega), List.map_map]
  refine Prod.ext ?_ ?_
  · refine List.map_congr_left fun t _ => ?_
    show c * t / (c * lowC tops b) = _
    exact Int.mul_ediv_mul_of_pos _ _ (by omega)
  · exact Int.mul_ediv_mul_of_pos _ _ (by omega)
theorem ext_getD {a b : List Int} (hl : a.length = b.length) (h : ∀ j, j < a.length → a.getD j 0 = b.getD j 0) : a = b := by
  refine List.ext_getElem hl fun j h1 h2 => ?_
  have := h j h1
  rw [List.getD_eq_getElem?_getD, List.getD_eq_getElem?_getD, List.getElem?_eq_getElem h1, List.getElem?_eq_getElem h2] at this
  exact this
theorem getD_map {c : Int → Int} (h0 : c 0 = 0) (a : List Int) (j : Nat) : (a.map c).getD j 0 = c (a.getD j 0) := by
  rw [List.getD_eq_getElem?_getD, List.getD_eq_getElem?_getD, List.getElem?_map]
  cases a[j]? with
  | none => exact h0.symm
  | some x => rfl
/-- equal fractions have the same lowest terms -/
theorem low_eq {v v' : List Int} {b b' : Int} (hb : 1 ≤ b) (hb' : 1 ≤ b') (hl : v.length = v'.length) (h : ∀ j, j < v.length → b' * v.getD j 0 = b * v'.getD j 0) : lowL v b = lowL v' b' := by
  rw [← lowL_mul hb' v b, ← lowL_mul hb v' b', Int.mul_comm b' b]
  congr 1
  refine ext_getD (by simp [hl]) fun j hj => ?_
  rw [List.length_map] at hj
  rw [getD_map (Int.mul_zero _), getD_map (Int.mul_zero _), h j hj]
theorem low_len (v : List Int) (b : Int) : (lowL v b).1.length = v.length := List.length_map _
theorem low_pos {v : List Int} {b : Int} (hb : 1 ≤ b) : 1 ≤ (lowL v b).2 := by
  have g := lowC_pos v b hb
  obtain ⟨c, hc⟩ := (lowC_dvd v b).1
  show 1 ≤ b / lowC v b
  have : b / lowC v b = c := by
    conv => lhs; lhs; rw [hc]
    exact Int.mul_ediv_cancel_left _ (by omega)
  rw [this]
  rcases Int.lt_or_le 0 c with z | z
  · omega
  · exfalso
    have := Int.mul_le_mul_of_nonneg_left z (show 0 ≤ lowC v b by omega)
    omega
theorem low_dvd (v : List Int) (b : Int) (hb : 1 ≤ b) : (lowL v b).2 ∣ b := by
  obtain ⟨c, hc⟩ := (lowC_dvd v b).1
  have g := lowC_pos v b hb
  have : b / lowC v b = c := by
    conv => lhs; lhs; rw [hc]
    exact Int.mul_ediv_cancel_left _ (by omega)
  show b / lowC v b ∣ b
  rw [this]
  exact ⟨lowC v b, by rw [Int.mul_comm]; exact hc⟩
theorem low_cross {v : List Int} {b : Int} (hb : 1 ≤ b) (j : Nat) : (lowL v b).2 * v.getD j 0 = b * (lowL v b).1.getD j 0 := by
  have g := lowC_pos v b hb
  have d := lowC_dvd v b
  show b / lowC v b * v.getD j 0 = b * (v.map fun t => t / lowC v b).getD j 0
  rw [getD_map (c := fun t => t / lowC v b) (Int.zero_ediv _)]
  have dt : lowC v b ∣ v.getD j 0 := by
    rw [List.getD_eq_getElem?_getD]
    by_cases h : j < v.length
    · rw [List.getElem?_eq_getElem h]
      exact d.2 _ (List.getElem_mem _)
    · rw [List.getElem?_eq_none (by omega)]
      exact Int.dvd_zero _
  obtain ⟨c, hc⟩ := d.1
  obtain ⟨t, ht⟩ := dt
  have e1 : b / lowC v b = c := by
    conv => lhs; lhs; rw [hc]
    exact Int.mul_ediv_cancel_left _ (by omega)
  have e2 : v.getD j 0 / lowC v b = t := by
    rw [ht]
    exact Int.mul_ediv_cancel_left _ (by omega)
  rw [e1, e2]
  conv => rhs; lhs; rw [hc]
  conv => lhs; rhs; rw [ht]
  rw [← Int.mul_assoc, Int.mul_comm c]
/-- lowest terms stay -/
theorem low_low {v : List Int} {b : Int} (hb : 1 ≤ b) : lowL (lowL v b).1 (lowL v b).2 = lowL v b :=
  low_eq (low_pos hb) hb (low_len v b) fun j _ => by rw [← low_cross hb]
/-! ### pairings -/
def difL (r x y : List Int) : List Int := (List.range r.length).map fun k => (x.getD k 0 - y.getD k 0) % r.getD k 0
theorem difL_get {r x y : List Int} {k : Nat} (h : k < r.length) : (difL r x y).getD k 0 = (x.getD k 0 - y.getD k 0) % r.getD k 0 := by
  unfold difL
  rw [List.getD_eq_getElem?_getD, List.getElem?_map, List.getElem?_range h]
  rfl
theorem pair_symm (r : List Int) (e : Int) (x l : List Int) : pairL r e x l = pairL r e l x := by
  have h : ∀ n, pairGo r e x l n = pairGo r e l x n := fun n => by
    induction n with
    | zero => rfl
    | succ n ih =>
      show _ + _ = _ + _
      rw [ih, Int.mul_comm (x.getD n 0)]
  unfold pairL
  rw [h]
theorem pair_dif {r : List Int} {e : Int} (x y l : List Int) (hr : ∀ k, k < r.length → e % r.getD k 0 = 0) : ∀ n, n ≤ r.length → e ∣ pairGo r e x l n - pairGo r e y l n - pairGo r e (difL r x y) l n
  | 0, _ => ⟨0, by show (0 : Int) - 0 - 0 = e * 0; omega⟩
  | n + 1, h => by
    have ih := pair_dif x y l hr n (by omega)
    show e ∣ pairGo r e x l n + x.getD n 0 * l.getD n 0 * (e / r.getD n 0) - (pairGo r e y l n + y.getD n 0 * l.getD n 0 * (e / r.getD n 0)) - (pairGo r e (difL r x y) l n + (difL r x y).getD n 0 * l.getD n 0 * (e / r.getD n 0))
    rw [difL_get (by omega)]
    generalize hm : r.getD n 0 = m
    generalize x.getD n 0 = a
    generalize y.getD n 0 = b
    generalize l.getD n 0 = c
    have hem : m * (e / m) = e := Int.mul_ediv_cancel' (Int.dvd_of_emod_eq_zero (by rw [← hm]; exact hr n (by omega)))
    have e1 : a * c * (e / m) - b * c * (e / m) - (a - b) % m * c * (e / m) = e * ((a - b) / m * c) := by
      have q : a - b = (a - b) % m + m * ((a - b) / m) := (Int.emod_add_mul_ediv _ _).symm
      have : a * c * (e / m) - b * c * (e / m) - (a - b) % m * c * (e / m) = (a - b - (a - b) % m) * c * (e / m) := by
        rw [Int.sub_mul, Int.sub_mul, Int.sub_mul, Int.sub_mul]
      rw [this]
      have : a - b - (a - b) % m = m * ((a - b) / m) := by omega
      rw [this]
      conv => rhs; lhs; rw [← hem]
      rw [Int.mul_assoc, Int.mul_assoc, Int.mul_assoc]
      congr 1
      rw [Int.mul_comm (e / m), ← Int.mul_assoc]
    obtain ⟨q, hq⟩ := ih
    refine ⟨q + (a - b) / m * c, ?_⟩
    rw [Int.mul_add, ← hq, ← e1]
    omega
theorem pair_difL {r : List Int} {e : Int} (he : 0 < e) (x y l : List Int) (hr : ∀ k, k < r.length → e % r.getD k 0 = 0) : (pairL r e x l - pairL r e y l) % e = pairL r e (difL r x y) l := by
  obtain ⟨q, hq⟩ := pair_dif x y l hr r.length (Nat.le_refl _)
  unfold pairL
  rw [← Int.sub_emod]
  have : pairGo r e x l r.length - pairGo r e y l r.length = pairGo r e (difL r x y) l r.length + e * q := by omega
  rw [this, Int.add_mul_emod_self_left]
/-! ### sums over places -/
/-- how far a place turns -/
def pw (r : List Int) (e sg : Int) (x l : List Int) : Nat := ((sg * pairL r e x l) % e).toNat
/-- the sum of vectors, each turned by its place -/
def TSf (r : List Int) (e : Int) (deg : Nat) (dv : List Int) (pl : Nat → List Int) (n : Nat) (sg : Int) (l : List Int) (W : Nat → Nat → Int) (j : Nat) : Int := sm n fun i => tn deg dv (pw r e sg (pl i) l) (W i) j
section
variable {r : List Int} {e : Int} {deg : Nat} {dv : List Int} {pl : Nat → List Int} {n : Nat}
theorem TSf_congr {sg : Int} {l : List Int} {W W' : Nat → Nat → Int} {j : Nat} (h : ∀ i, i < n → ∀ k, k < deg → W i k = W' i k) : TSf r e deg dv pl n sg l W j = TSf r e deg dv pl n sg l W' j := sm_congr fun i hi => tn_congr (h i hi)
theorem TSf_add (sg : Int) (l : List Int) (W W' : Nat → Nat → Int) (j : Nat) : TSf r e deg dv pl n sg l (fun i k => W i k + W' i k) j = TSf r e deg dv pl n sg l W j + TSf r e deg dv pl n sg l W' j := by
  unfold TSf
  rw [← sm_add]
  exact sm_congr fun i _ => tn_add _ _ _ _ _ _
theorem TSf_mul (sg : Int) (l : List Int) (c : Int) (W : Nat → Nat → Int) (j : Nat) : TSf r e deg dv pl n sg l (fun i k => c * W i k) j = c * TSf r e deg dv pl n sg l W j := by
  unfold TSf
  rw [← sm_mul]
  exact sm_congr fun i _ => tn_mul _ _ _ _ _ _
/-- what is asked of a floor's tables -/
structure Tabs (r : List Int) (e : Int) (deg : Nat) (dv : List Int) (pl : Nat → List Int) (n : Nat) : Prop where
  e0 : 0 < e
  d1 : 1 ≤ deg
  per : ∀ j, j < deg → ∀ i, Tz deg dv j (i + e.toNat) = Tz deg dv j i
  div : ∀ k, k < r.length → e % r.getD k 0 = 0
  dif : ∀ i, i < n → ∀ b, b < n → ∃ c, c < n ∧ pl c = difL r (pl i) (pl b) ∧ (c = 0 ↔ i = b)
  orth : ∀ c, c < n → ∀ j, j < deg → sm n (fun li => Tz deg dv j (pairL r e (pl c) (pl li)).toNat) = if c = 0 then (n : Int) * (if j = 0 then 1 else 0) else 0
theorem modn {a : Int} {e : Int} (he : 0 < e) : ((a % e).toNat : Int) = a % e := Int.toNat_of_nonneg (Int.emod_nonneg _ (by omega))
theorem pair_mod (he : 0 < e) (x l : List Int) : pairL r e x l % e = pairL r e x l := by
  unfold pairL
  exact Int.emod_emod_of_dvd _ (Int.dvd_refl _)
theorem inv1 (B : Tabs r e deg dv pl n) {p q : Nat → Nat} {c : Nat} (hc : c < n) (h : ∀ li, li < n → ((p li : Int) + (q li : Int)) % e = pairL r e (pl c) (pl li)) (w : Nat → Int) {j : Nat} (hj : j < deg) :
    sm n (fun li => tn deg dv (p li) (tn deg dv (q li) w) j) = if c = 0 then (n : Int) * w j else 0 := by
  have he := B.e0
  have e1 : ∀ li, li < n → tn deg dv (p li) (tn deg dv (q li) w) j = sm deg (fun k => w k * tn deg dv k (fun m => Tz deg dv m (pairL r e (pl c) (pl li)).toNat) j) := fun li hl => by
    rw [tn_tn _ _ _ _ _ _ B.d1]
    unfold tn
    refine sm_congr fun k hk => ?_
    congr 1
    have := tn_T deg dv k j B.d1 (pairL r e (pl c) (pl li)).toNat
    unfold tn at this
    rw [this]
    refine T_eqv (e := e.toNat) (B.per j hj) ?_
    have hh := h li hl
    have hx : ((pairL r e (pl c) (pl li)).toNat : Int) = pairL r e (pl c) (pl li) := by
      rw [← pair_mod he]
      exact modn he
    have g1 : (((p li + q li) % e.toNat : Nat) : Int) = (((pairL r e (pl c) (pl li)).toNat) % e.toNat : Nat) := by
      rw [Int.natCast_emod, Int.natCast_emod, Int.natCast_add, hx, show ((e.toNat : Nat) : Int) = e by omega, hh, pair_mod he]
    have g2 : (p li + q li) % e.toNat = (pairL r e (pl c) (pl li)).toNat % e.toNat := by exact_mod_cast g1
    rw [Nat.add_mod, g2, Nat.add_comm k, Nat.add_mod ((pairL r e (pl c) (pl li)).toNat)]
  rw [sm_congr e1, sm_swap]
  have e2 : ∀ k, k < deg → sm n (fun li => w k * tn deg dv k (fun m => Tz deg dv m (pairL r e (pl c) (pl li)).toNat) j) = if c = 0 then (n : Int) * (w k * Tz deg dv j k) else 0 := fun k _ => by
    rw [sm_mul, ← tn_sm deg dv k j n (fun li m => Tz deg dv m (pairL r e (pl c) (pl li)).toNat)]
    have e3 : tn deg dv k (fun m => sm n (fun li => Tz deg dv m (pairL r e (pl c) (pl li)).toNat)) j = tn deg dv k (fun m => if c = 0 then (n : Int) * (if m = 0 then 1 else 0) else 0) j := tn_congr fun m hm => B.orth c hc m hm
    rw [e3]
    by_cases h0 : c = 0
    · rw [if_pos h0]
      simp only [h0, if_true]
      rw [tn_mul]
      have : tn deg dv k (fun m => if m = 0 then 1 else 0) j = Tz deg dv j k := by
        unfold tn
        have : ∀ m, m < deg → (if m = 0 then 1 else 0) * Tz deg dv j (k + m) = if m = 0 then Tz deg dv j (k + m) else 0 := fun m _ => by
          by_cases z : m = 0
          · rw [if_pos z, if_pos z]; omega
          · rw [if_neg z, if_neg z]; omega
        rw [sm_congr this, sm_delta, if_pos (by have := B.d1; omega)]
        rfl
      rw [this, ← Int.mul_assoc, Int.mul_comm (w k), Int.mul_assoc]
    · rw [if_neg h0]
      simp only [h0, if_false]
      have : tn deg dv k (fun _ => 0) j = 0 := by
        unfold tn
        have : ∀ m, m < deg → (0 : Int) * Tz deg dv j (k + m) = 0 := fun m _ => Int.zero_mul _
        rw [sm_congr this, sm_zero]
      rw [this, Int.mul_zero]
  rw [sm_congr e2]
  by_cases h0 : c = 0
  · simp only [h0, if_true]
    rw [sm_mul]
    congr 1
    have : ∀ k, k < deg → w k * Tz deg dv j k = if k = j then w k else 0 := fun k hk => by
      rw [T_lo hk]
      by_cases z : k = j
      · rw [if_pos z, if_pos z]; omega
      · rw [if_neg z, if_neg z]; omega
    rw [sm_congr this, sm_delta, if_pos hj]
  · simp only [h0, if_false]
    exact sm_zero _
theorem pw_cast (he : 0 < e) (sg : Int) (x l : List Int) : ((pw r e sg x l : Nat) : Int) = (sg * pairL r e x l) % e := modn he
/-- there and back -/
theorem inv_ts (B : Tabs r e deg dv pl n) {s : Int} (hs : s = 1 ∨ s = -1) {b : Nat} (hb : b < n) (W : Nat → Nat → Int) {j : Nat} (hj : j < deg) :
    TSf r e deg dv pl n s (pl b) (fun li => TSf r e deg dv pl n (-s) (pl li) W) j = (n : Int) * W b j := by
  have he := B.e0
  unfold TSf
  have e1 : ∀ li, li < n → tn deg dv (pw r e s (pl li) (pl b)) (fun k => sm n fun i => tn deg dv (pw r e (-s) (pl i) (pl li)) (W i) k) j = sm n (fun i => tn deg dv (pw r e s (pl li) (pl b)) (tn deg dv (pw r e (-s) (pl i) (pl li)) (W i)) j) := fun li _ => tn_sm _ _ _ _ _ _
  show sm n (fun li => tn deg dv (pw r e s (pl li) (pl b)) (fun k => sm n fun i => tn deg dv (pw r e (-s) (pl i) (pl li)) (W i) k) j) = _
  rw [sm_congr e1, sm_swap]
  have e2 : ∀ i, i < n → sm n (fun li => tn deg dv (pw r e s (pl li) (pl b)) (tn deg dv (pw r e (-s) (pl i) (pl li)) (W i)) j) = if i = b then (n : Int) * W i j else 0 := fun i hi => by
    rcases hs with rfl | rfl
    · obtain ⟨c, hc, ec, iff⟩ := B.dif b hb i hi
      rw [inv1 B hc (fun li hl => ?_) (W i) hj]
      · by_cases h0 : c = 0
        · rw [if_pos h0, if_pos (iff.mp h0).symm]
        · rw [if_neg h0, if_neg (fun z => h0 (iff.mpr z.symm))]
      · rw [pw_cast he, pw_cast he, ec, ← pair_difL he _ _ _ B.div, pair_symm r e (pl li), ← Int.add_emod]
        congr 1
        omega
    · obtain ⟨c, hc, ec, iff⟩ := B.dif i hi b hb
      rw [inv1 B hc (fun li hl => ?_) (W i) hj]
      · by_cases h0 : c = 0
        · rw [if_pos h0, if_pos (iff.mp h0)]
        · rw [if_neg h0, if_neg (fun z => h0 (iff.mpr z))]
      · rw [pw_cast he, pw_cast he, ec, ← pair_difL he _ _ _ B.div, pair_symm r e (pl li), ← Int.add_emod]
        congr 1
        omega
  rw [sm_congr e2, sm_delta (f := fun i => (n : Int) * W i j), if_pos hb]
end
end K08

/-! Tables of the orders: what is left of the powers; that they come round; sums over all labels. -/
namespace K08
def tabs : List (Int × List Int × List (List Int)) := [(2, [1, 1], [[1, -1, 1]]),
  (3, [1, 1, 1], [[1, 0, -1, 1, 0], [0, 1, -1, 0, 1]]),
  (4, [1, 0, 1], [[1, 0, -1, 0, 1, 0], [0, 1, 0, -1, 0, 1]]),
  (5, [1, 1, 1, 1, 1], [[1, 0, 0, 0, -1, 1, 0, 0, 0], [0, 1, 0, 0, -1, 0, 1, 0, 0], [0, 0, 1, 0, -1, 0, 0, 1, 0], [0, 0, 0, 1, -1, 0, 0, 0, 1]]),
  (6, [1, -1, 1], [[1, 0, -1, -1, 0, 1, 1, 0], [0, 1, 1, 0, -1, -1, 0, 1]]),
  (7, [1, 1, 1, 1, 1, 1, 1], [[1, 0, 0, 0, 0, 0, -1, 1, 0, 0, 0, 0, 0], [0, 1, 0, 0, 0, 0, -1, 0, 1, 0, 0, 0, 0], [0, 0, 1, 0, 0, 0, -1, 0, 0, 1, 0, 0, 0], [0, 0, 0, 1, 0, 0, -1, 0, 0, 0, 1, 0, 0], [0, 0, 0, 0, 1, 0, -1, 0, 0, 0, 0, 1, 0], [0, 0, 0, 0, 0, 1, -1, 0, 0, 0, 0, 0, 1]]),
  (8, [1, 0, 0, 0, 1], [[1, 0, 0, 0, -1, 0, 0, 0, 1, 0, 0, 0], [0, 1, 0, 0, 0, -1, 0, 0, 0, 1, 0, 0], [0, 0, 1, 0, 0, 0, -1, 0, 0, 0, 1, 0], [0, 0, 0, 1, 0, 0, 0, -1, 0, 0, 0, 1]]),
  (9, [1, 0, 0, 1, 0, 0, 1], [[1, 0, 0, 0, 0, 0, -1, 0, 0, 1, 0, 0, 0, 0, 0], [0, 1, 0, 0, 0, 0, 0, -1, 0, 0, 1, 0, 0, 0, 0], [0, 0, 1, 0, 0, 0, 0, 0, -1, 0, 0, 1, 0, 0, 0], [0, 0, 0, 1, 0, 0, -1, 0, 0, 0, 0, 0, 1, 0, 0], [0, 0, 0, 0, 1, 0, 0, -1, 0, 0, 0, 0, 0, 1, 0], [0, 0, 0, 0, 0, 1, 0, 0, -1, 0, 0, 0, 0, 0, 1]]),
  (10, [1, -1, 1, -1, 1], [[1, 0, 0, 0, -1, -1, 0, 0, 0, 1, 1, 0, 0, 0], [0, 1, 0, 0, 1, 0, -1, 0, 0, -1, 0, 1, 0, 0], [0, 0, 1, 0, -1, 0, 0, -1, 0, 1, 0, 0, 1, 0], [0, 0, 0, 1, 1, 0, 0, 0, -1, -1, 0, 0, 0, 1]]),
  (12, [1, 0, -1, 0, 1], [[1, 0, 0, 0, -1, 0, -1, 0, 0, 0, 1, 0, 1, 0, 0, 0], [0, 1, 0, 0, 0, -1, 0, -1, 0, 0, 0, 1, 0, 1, 0, 0], [0, 0, 1, 0, 1, 0, 0, 0, -1, 0, -1, 0, 0, 0, 1, 0], [0, 0, 0, 1, 0, 1, 0, 0, 0, -1, 0, -1, 0, 0, 0, 1]]),
  (16, [1, 0, 0, 0, 0, 0, 0, 0, 1], [[1, 0, 0, 0, 0, 0, 0, 0, -1, 0, 0, 0, 0, 0, 0, 0, 1, 0, 0, 0, 0, 0, 0, 0], [0, 1, 0, 0, 0, 0, 0, 0, 0, -1, 0, 0, 0, 0, 0, 0, 0, 1, 0, 0, 0, 0, 0, 0], [0, 0, 1, 0, 0, 0, 0, 0, 0, 0, -1, 0, 0, 0, 0, 0, 0, 0, 1, 0, 0, 0, 0, 0], [0, 0, 0, 1, 0, 0, 0, 0, 0, 0, 0, -1, 0, 0, 0, 0, 0, 0, 0, 1, 0, 0, 0, 0], [0, 0, 0, 0, 1, 0, 0, 0, 0, 0, 0, 0, -1, 0, 0, 0, 0, 0, 0, 0, 1, 0, 0, 0], [0, 0, 0, 0, 0, 1, 0, 0, 0, 0, 0, 0, 0, -1, 0, 0, 0, 0, 0, 0, 0, 1, 0, 0], [0, 0, 0, 0, 0, 0, 1, 0, 0, 0, 0, 0, 0, 0, -1, 0, 0, 0, 0, 0, 0, 0, 1, 0], [0, 0, 0, 0, 0, 0, 0, 1, 0, 0, 0, 0, 0, 0, 0, -1, 0, 0, 0, 0, 0, 0, 0, 1]]),
  (15, [1, -1, 0, 1, -1, 1, 0, -1, 1], [[1, 0, 0, 0, 0, 0, 0, 0, -1, -1, -1, 0, 0, 1, 1, 1, 0, 0, 0, 0, 0, 0, 0], [0, 1, 0, 0, 0, 0, 0, 0, 1, 0, 0, -1, 0, -1, 0, 0, 1, 0, 0, 0, 0, 0, 0], [0, 0, 1, 0, 0, 0, 0, 0, 0, 1, 0, 0, -1, 0, -1, 0, 0, 1, 0, 0, 0, 0, 0], [0, 0, 0, 1, 0, 0, 0, 0, -1, -1, 0, 0, 0, 0, 1, 0, 0, 0, 1, 0, 0, 0, 0], [0, 0, 0, 0, 1, 0, 0, 0, 1, 0, 0, 0, 0, -1, -1, 0, 0, 0, 0, 1, 0, 0, 0], [0, 0, 0, 0, 0, 1, 0, 0, -1, 0, -1, 0, 0, 1, 0, 0, 0, 0, 0, 0, 1, 0, 0], [0, 0, 0, 0, 0, 0, 1, 0, 0, -1, 0, -1, 0, 0, 1, 0, 0, 0, 0, 0, 0, 1, 0], [0, 0, 0, 0, 0, 0, 0, 1, 1, 1, 0, 0, -1, -1, -1, 0, 0, 0, 0, 0, 0, 0, 1]]),
  (13, [1, 1, 1, 1, 1, 1, 1, 1, 1, 1, 1, 1, 1], [[1, 0, 0, 0, 0, 0, 0, 0, 0, 0, 0, 0, -1, 1, 0, 0, 0, 0, 0, 0, 0, 0, 0, 0, 0], [0, 1, 0, 0, 0, 0, 0, 0, 0, 0, 0, 0, -1, 0, 1, 0, 0, 0, 0, 0, 0, 0, 0, 0, 0], [0, 0, 1, 0, 0, 0, 0, 0, 0, 0, 0, 0, -1, 0, 0, 1, 0, 0, 0, 0, 0, 0, 0, 0, 0], [0, 0, 0, 1, 0, 0, 0, 0, 0, 0, 0, 0, -1, 0, 0, 0, 1, 0, 0, 0, 0, 0, 0, 0, 0], [0, 0, 0, 0, 1, 0, 0, 0, 0, 0, 0, 0, -1, 0, 0, 0, 0, 1, 0, 0, 0, 0, 0, 0, 0], [0, 0, 0, 0, 0, 1, 0, 0, 0, 0, 0, 0, -1, 0, 0, 0, 0, 0, 1, 0, 0, 0, 0, 0, 0], [0, 0, 0, 0, 0, 0, 1, 0, 0, 0, 0, 0, -1, 0, 0, 0, 0, 0, 0, 1, 0, 0, 0, 0, 0], [0, 0, 0, 0, 0, 0, 0, 1, 0, 0, 0, 0, -1, 0, 0, 0, 0, 0, 0, 0, 1, 0, 0, 0, 0], [0, 0, 0, 0, 0, 0, 0, 0, 1, 0, 0, 0, -1, 0, 0, 0, 0, 0, 0, 0, 0, 1, 0, 0, 0], [0, 0, 0, 0, 0, 0, 0, 0, 0, 1, 0, 0, -1, 0, 0, 0, 0, 0, 0, 0, 0, 0, 1, 0, 0], [0, 0, 0, 0, 0, 0, 0, 0, 0, 0, 1, 0, -1, 0, 0, 0, 0, 0, 0, 0, 0, 0, 0, 1, 0], [0, 0, 0, 0, 0, 0, 0, 0, 0, 0, 0, 1, -1, 0, 0, 0, 0, 0, 0, 0, 0, 0, 0, 0, 1]])]
theorem tabs_ok : ∀ t ∈ tabs, polyL t.1 = t.2.1 ∧ t.2.2 = (List.range (t.2.1.length - 1)).map (fun j => cvj (t.2.1.length - 1) t.2.1 j t.1.toNat) := by decide +kernel
theorem er_tab : ∀ e ∈ ER, ∃ t ∈ tabs, t.1 = e := by decide +kernel
theorem tab_sm : ∀ t ∈ tabs, 2 ≤ t.1 ∧ 2 ≤ t.2.1.length ∧ t.2.1.length - 1 = (unitsL t.1).length ∧ t.2.1.length ≤ t.1.toNat ∧ t.2.1.getD (t.2.1.length - 1) 0 = 1 ∧ (∀ col ∈ t.2.2, ∀ i ∈ List.range (t.2.1.length - 1), col.getD (i + t.1.toNat) 0 = col.getD i 0) := by decide +kernel
def orthB (r : List Int) (e : Int) (cols : List (List Int)) : Bool :=
  (List.range (placesL r).length).all fun c => (List.range cols.length).all fun j =>
    decide (sm (placesL r).length (fun li => (cols.getD j []).getD (pairL r e ((placesL r).getD c []) ((placesL r).getD li [])).toNat 0) = if c = 0 then ((placesL r).length : Int) * (if j = 0 then 1 else 0) else 0)
theorem orth_ok : ∀ r ∈ RR, ∀ t ∈ tabs, ordL r = t.1 → orthB r t.1 t.2.2 = true := by decide +kernel
def idx (r x : List Int) : Nat := (placesL r).findIdx fun y => decide (y = x)
def difB (r : List Int) : Bool :=
  (List.range (placesL r).length).all fun i => (List.range (placesL r).length).all fun b =>
    decide ((placesL r)[idx r (difL r ((placesL r).getD i []) ((placesL r).getD b []))]? = some (difL r ((placesL r).getD i []) ((placesL r).getD b [])) ∧ (idx r (difL r ((placesL r).getD i []) ((placesL r).getD b [])) = 0 ↔ i = b))
theorem dif_ok : ∀ r ∈ RR, difB r = true := by decide +kernel
theorem div_ok : ∀ r ∈ RR, ∀ k ∈ List.range r.length, ordL r % r.getD k 0 = 0 := by decide +kernel
theorem ord_er : ∀ r ∈ RR, ordL r ∈ ER := by decide +kernel
theorem org_ok : ∀ r ∈ RR, ∀ x ∈ placesL r, pairL r (ordL r) x ((placesL r).getD 0 []) = 0 := by decide +kernel
theorem tab_col {t : Int × List Int × List (List Int)} (ht : t ∈ tabs) {j : Nat} (hj : j < t.2.1.length - 1) {i : Nat} (hi : i < t.2.1.length - 1 + t.1.toNat) : (t.2.2.getD j []).getD i 0 = Tz (t.2.1.length - 1) t.2.1 j i := by
  rw [(tabs_ok t ht).2]
  have : ((List.range (t.2.1.length - 1)).map (fun j => cvj (t.2.1.length - 1) t.2.1 j t.1.toNat)).getD j [] = cvj (t.2.1.length - 1) t.2.1 j t.1.toNat := by
    rw [List.getD_eq_getElem?_getD, List.getElem?_map, List.getElem?_range hj]
    rfl
  rw [this, cvj_T hi]
/-- the degree of a floor's order -/
abbrev dg (r : List Int) : Nat := (polyL (ordL r)).length - 1
theorem tabs_of {r : List Int} (h : r ∈ RR) : Tabs r (ordL r) (dg r) (polyL (ordL r)) (fun i => (placesL r).getD i []) (placesL r).length := by
  obtain ⟨t, ht, te⟩ := er_tab _ (ord_er r h)
  have ok := tabs_ok t ht
  have sml := tab_sm t ht
  have ep : polyL (ordL r) = t.2.1 := by rw [← te]; exact ok.1
  have lc : t.2.2.length = t.2.1.length - 1 := by
    rw [ok.2]
    simp
  refine ⟨by omega, ?_, ?_, fun k hk => div_ok r h k (List.mem_range.mpr hk), ?_, ?_⟩
  · show 1 ≤ (polyL (ordL r)).length - 1
    rw [ep]
    omega
  · show ∀ j, j < (polyL (ordL r)).length - 1 → ∀ i, Tz ((polyL (ordL r)).length - 1) (polyL (ordL r)) j (i + (ordL r).toNat) = Tz ((polyL (ordL r)).length - 1) (polyL (ordL r)) j i
    rw [ep]
    intro j hj
    refine T_per (by omega) fun i hi => ?_
    rw [← te, ← tab_col ht hj (by omega), ← tab_col ht hj (by omega)]
    refine sml.2.2.2.2.2 _ ?_ i (List.mem_range.mpr hi)
    rw [List.getD_eq_getElem?_getD, List.getElem?_eq_getElem (by omega)]
    exact List.getElem_mem _
  · intro i hi b hb
    have := dif_ok r h
    unfold difB at this
    rw [List.all_eq_true] at this
    have := this i (List.mem_range.mpr hi)
    rw [List.all_eq_true] at this
    have := of_decide_eq_true (this b (List.mem_range.mpr hb))
    refine ⟨_, (List.getElem?_eq_some_iff.mp this.1).1, ?_, this.2⟩
    show (placesL r).getD _ [] = _
    rw [List.getD_eq_getElem?_getD, this.1]
    rfl
  · show ∀ c, c < (placesL r).length → ∀ j, j < (polyL (ordL r)).length - 1 → sm (placesL r).length (fun li => Tz ((polyL (ordL r)).length - 1) (polyL (ordL r)) j (pairL r (ordL r) ((placesL r).getD c []) ((placesL r).getD li [])).toNat) = _
    rw [ep]
    intro c hc j hj
    have := orth_ok r h t ht te.symm
    unfold orthB at this
    rw [List.all_eq_true] at this
    have := this c (List.mem_range.mpr hc)
    rw [List.all_eq_true] at this
    have := of_decide_eq_true (this j (List.mem_range.mpr (by omega)))
    rw [← this]
    refine sm_congr fun li _ => ?_
    have pb : (pairL r t.1 ((placesL r).getD c []) ((placesL r).getD li [])).toNat < t.1.toNat := by
      have h0 := Int.emod_nonneg (pairGo r t.1 ((placesL r).getD c []) ((placesL r).getD li []) r.length) (show t.1 ≠ 0 by omega)
      have h1 := Int.emod_lt_of_pos (pairGo r t.1 ((placesL r).getD c []) ((placesL r).getD li []) r.length) (show 0 < t.1 by omega)
      unfold pairL
      omega
    rw [← te, tab_col ht hj (by omega)]
end K08

/-! Rows and their voices as fractions of vectors. -/
namespace K08
/-! ### sums of turns, item by item -/
def dotc (c : Nat → Int) (xs : List Int) : Int := sm xs.length (fun k => xs.getD k 0 * c k)
theorem dotc_step {c : Nat → Int} {e : Int} (he : 0 < e) {tot : List Int} (hl : tot.length = e.toNat) (j v : Int) : dotc c (stepT e tot j v) = dotc c tot + v * c (j % e).toNat := by
  have h0 := Int.emod_nonneg j (show e ≠ 0 by omega)
  have h1 := Int.emod_lt_of_pos j he
  unfold dotc stepT
  rw [List.length_set, sm_set (by omega)]
  congr 2
  omega
theorem addN_len' (e p : Int) (tops tot : List Int) : ∀ k, (addN e p tops tot k).length = tot.length
  | 0 => rfl
  | k + 1 => by
    show (List.set _ _ _).length = tot.length
    rw [List.length_set, addN_len' e p tops tot k]
theorem dotc_add {c : Nat → Int} {e : Int} (he : 0 < e) {tot : List Int} (hl : tot.length = e.toNat) (p : Int) (tops : List Int) : ∀ k, dotc c (addN e p tops tot k) = dotc c tot + sm k (fun m => tops.getD m 0 * c ((p + (m : Int)) % e).toNat)
  | 0 => by show dotc c tot = dotc c tot + 0; omega
  | k + 1 => by
    show dotc c (stepT e (addN e p tops tot k) (p + (k : Int)) (tops.getD k 0)) = dotc c tot + (sm k (fun m => tops.getD m 0 * c ((p + (m : Int)) % e).toNat) + tops.getD k 0 * c ((p + (k : Int)) % e).toNat)
    rw [dotc_step he (by rw [addN_len', hl]), dotc_add he hl p tops k]
    omega
theorem tsGo_len' (r : List Int) (e sg : Int) (label : List Int) (items : List (List Int)) : ∀ i, (tsGo r e sg label items i).length = e.toNat
  | 0 => by simp [tsGo]
  | i + 1 => by
    show (addN _ _ _ _ _).length = _
    rw [addN_len', tsGo_len' r e sg label items i]
theorem dotc_zero (c : Nat → Int) (n : Nat) : dotc c (List.replicate n 0) = 0 := by
  unfold dotc
  have : ∀ k, k < (List.replicate n (0 : Int)).length → (List.replicate n (0 : Int)).getD k 0 * c k = 0 := fun k _ => by
    rw [List.getD_eq_getElem?_getD, List.getElem?_replicate]
    split <;> exact Int.zero_mul _
  rw [sm_congr this, sm_zero]
theorem dotc_ts {c : Nat → Int} (r : List Int) {e : Int} (he : 0 < e) (sg : Int) (l : List Int) (items : List (List Int)) : ∀ i, dotc c (tsGo r e sg l items i) = sm i (fun a => sm (items.getD a []).length (fun m => (items.getD a []).getD m 0 * c ((sg * pairL r e ((placesL r).getD a []) l + (m : Int)) % e).toNat))
  | 0 => dotc_zero _ _
  | i + 1 => by
    show dotc c (addN e (sg * pairL r e ((placesL r).getD i []) l) (items.getD i []) (tsGo r e sg l items i) (items.getD i []).length) = sm i _ + _
    rw [dotc_add he (tsGo_len' _ _ _ _ _ _), dotc_ts r he sg l items i]
/-- the items of vectors -/
abbrev wv (items : List (List Int)) (i k : Nat) : Int := (items.getD i []).getD k 0
abbrev pl (r : List Int) (i : Nat) : List Int := (placesL r).getD i []
abbrev Tq (r : List Int) (sg : Int) (l : List Int) (W : Nat → Nat → Int) (j : Nat) : Int := TSf r (ordL r) (dg r) (polyL (ordL r)) (fun i => (placesL r).getD i []) (placesL r).length sg l W j
theorem poly_len {r : List Int} (h : r ∈ RR) : 2 ≤ (polyL (ordL r)).length ∧ dg r = (unitsL (ordL r)).length ∧ (polyL (ordL r)).length ≤ (ordL r).toNat := by
  obtain ⟨t, ht, te⟩ := er_tab _ (ord_er r h)
  have ok := tabs_ok t ht
  have sml := tab_sm t ht
  have ep : polyL (ordL r) = t.2.1 := by rw [← te]; exact ok.1
  show 2 ≤ (polyL (ordL r)).length ∧ (polyL (ordL r)).length - 1 = _ ∧ _
  rw [ep, ← te]
  exact ⟨sml.2.1, sml.2.2.1, sml.2.2.2.1⟩
theorem redL_len' {xs dv : List Int} (h : 1 ≤ dv.length) : (redL xs dv).length = dv.length - 1 := by
  have gl : ∀ n rest quo, rest.length = (dv.length - 1) + n → (divGo (dv.length - 1) dv n rest quo).2.length = dv.length - 1 := by
    intro n
    induction n with
    | zero => intro rest quo h; simpa [divGo] using h
    | succ n ih =>
      intro rest quo h
      unfold divGo
      refine ih _ _ ?_
      show (subN _ _ _ _ _).length = _
      rw [subN_len', List.length_dropLast]
      omega
  have hl : (divL xs dv).2.length ≤ dv.length - 1 := by
    by_cases h2 : dv.length - 1 ≤ xs.length
    · have := gl (xs.length - (dv.length - 1)) xs [] (by omega)
      show (divGo (dv.length - 1) dv (xs.length - (dv.length - 1)) xs []).2.length ≤ _
      omega
    · have e : xs.length - (dv.length - 1) = 0 := by omega
      unfold divL
      rw [e]
      show xs.length ≤ _
      omega
  unfold redL
  rw [List.length_append, List.length_replicate]
  omega
theorem tsL_len' {r : List Int} (h : r ∈ RR) (sg : Int) (l : List Int) (items : List (List Int)) : (tsL r sg l items).length = dg r := redL_len' (by have := poly_len h; omega)
theorem tsL_co {r : List Int} (h : r ∈ RR) (sg : Int) (l : List Int) {items : List (List Int)} (hn : items.length = (placesL r).length) (hi : ∀ t ∈ items, t.length = dg r) {j : Nat} (hj : j < dg r) : (tsL r sg l items).getD j 0 = Tq r sg l (wv items) j := by
  have B := tabs_of h
  have he := B.e0
  unfold tsL
  rw [red_ph (by have := poly_len h; omega) hj]
  show dotc (Tz (dg r) (polyL (ordL r)) j) _ = _
  rw [dotc_ts r he, hn]
  refine sm_congr fun a ha => ?_
  have la : (items.getD a []).length = dg r := by
    rw [List.getD_eq_getElem?_getD, List.getElem?_eq_getElem (by omega)]
    exact hi _ (List.getElem_mem _)
  rw [la]
  refine sm_congr fun m hm => ?_
  show _ * Tz (dg r) (polyL (ordL r)) j _ = _ * Tz (dg r) (polyL (ordL r)) j _
  congr 1
  refine T_eqv (e := (ordL r).toNat) (B.per j hj) ?_
  have h1 : ((ordL r).toNat : Int) = ordL r := by omega
  have g : ((((sg * pairL r (ordL r) ((placesL r).getD a []) l + (m : Int)) % ordL r).toNat % (ordL r).toNat : Nat) : Int) = ((pw r (ordL r) sg ((placesL r).getD a []) l + m) % (ordL r).toNat : Nat) := by
    rw [Int.natCast_emod, Int.natCast_emod, Int.natCast_add, pw_cast he, h1, modn he, Int.emod_emod_of_dvd _ (Int.dvd_refl _), Int.emod_add_emod]
  exact_mod_cast g
/-! ### fractions of vectors -/
/-- a number is the vector w over M -/
def Rp (d : Nat) (n : Num) (M : Int) (w : Nat → Int) : Prop := ∀ k, k < d → n.2 * w k = M * n.1.getD k 0
structure NumC (d : Nat) (n : Num) : Prop where
  len : n.1.length = d
  pos : 1 ≤ n.2
  low : lowL n.1 n.2 = n
theorem icancel {a b c : Int} (h : 1 ≤ c) (e : c * a = c * b) : a = b := Int.eq_of_mul_eq_mul_left (by omega) e
theorem Rp_of_low {d : Nat} {v : List Int} {b M : Int} {w : Nat → Int} (hb : 1 ≤ b) (h : ∀ k, k < d → b * w k = M * v.getD k 0) : Rp d (lowL v b) M w := fun k hk => by
  refine icancel hb ?_
  have c := low_cross (v := v) hb k
  have e1 : b * ((lowL v b).2 * w k) = (lowL v b).2 * (b * w k) := by rw [← Int.mul_assoc, Int.mul_comm b, Int.mul_assoc]
  rw [e1, h k hk, ← Int.mul_assoc, Int.mul_comm _ M, Int.mul_assoc, c, ← Int.mul_assoc, ← Int.mul_assoc, Int.mul_comm M]
theorem numC_low {d : Nat} {v : List Int} {b : Int} (hb : 1 ≤ b) (hl : v.length = d) : NumC d (lowL v b) := ⟨by rw [low_len, hl], low_pos hb, low_low hb⟩
theorem Rp_eq {d : Nat} {a b : Num} {M : Int} {w : Nat → Int} (hM : 1 ≤ M) (ha : NumC d a) (hb : NumC d b) (ra : Rp d a M w) (rb : Rp d b M w) : a = b := by
  rw [← ha.low, ← hb.low]
  refine low_eq ha.pos hb.pos (by rw [ha.len, hb.len]) fun j hj => ?_
  rw [ha.len] at hj
  refine icancel hM ?_
  have e1 := ra j hj
  have e2 := rb j hj
  have c1 : M * (b.2 * a.1.getD j 0) = b.2 * (M * a.1.getD j 0) := by rw [← Int.mul_assoc, Int.mul_comm M, Int.mul_assoc]
  have c2 : M * (a.2 * b.1.getD j 0) = a.2 * (M * b.1.getD j 0) := by rw [← Int.mul_assoc, Int.mul_comm M, Int.mul_assoc]
  rw [c1, c2, ← e1, ← e2, ← Int.mul_assoc, ← Int.mul_assoc, Int.mul_comm a.2]
theorem Rp_congr {d : Nat} {n : Num} {M : Int} {w w' : Nat → Int} (h : ∀ k, k < d → w k = w' k) (r : Rp d n M w) : Rp d n M w' := fun k hk => by rw [← h k hk, r k hk]
theorem Rp_mul {d : Nat} {n : Num} {M : Int} {w : Nat → Int} (c : Int) (r : Rp d n M w) : Rp d n (M * c) (fun k => c * w k) := fun k hk => by
  rw [← Int.mul_assoc, Int.mul_comm n.2, Int.mul_assoc, r k hk, ← Int.mul_assoc, Int.mul_comm c]
theorem Rp_self (d : Nat) (n : Num) : Rp d n n.2 (fun k => n.1.getD k 0) := fun _ _ => rfl
theorem sumT_get {a b : Num} {sg : Int} {k : Nat} (h : k < a.1.length) : (sumT a b sg).getD k 0 = a.1.getD k 0 * b.2 + sg * b.1.getD k 0 * a.2 := by
  unfold sumT
  rw [List.getD_eq_getElem?_getD, List.getElem?_map, List.getElem?_range h]
  rfl
theorem sumT_len (a b : Num) (sg : Int) : (sumT a b sg).length = a.1.length := by simp [sumT]
theorem numC_sum {d : Nat} {a b : Num} (ha : NumC d a) (hb : NumC d b) (sg : Int) : NumC d (sumN a b sg) := numC_low (by have := Int.mul_le_mul ha.pos hb.pos (by omega) (by have := ha.pos; omega); omega) (by rw [sumT_len, ha.len])
theorem mul1 {a b : Int} (ha : 1 ≤ a) (hb : 1 ≤ b) : 1 ≤ a * b := by
  have := Int.mul_le_mul ha hb (by omega) (by omega)
  omega
theorem Rp_sum {d : Nat} {a b : Num} {M N : Int} {u v : Nat → Int} (ha : NumC d a) (hb : NumC d b) (ra : Rp d a M u) (rb : Rp d b N v) : Rp d (sumN a b 1) (M * N) (fun k => N * u k + M * v k) := by
  refine Rp_of_low (mul1 ha.pos hb.pos) fun k hk => ?_
  rw [sumT_get (by rw [ha.len]; exact hk)]
  have e1 := ra k hk
  have e2 := rb k hk
  generalize a.1.getD k 0 = x at e1 ⊢
  generalize b.1.getD k 0 = y at e2 ⊢
  generalize u k = U at e1 ⊢
  generalize v k = V at e2 ⊢
  generalize a.2 = A at e1 ⊢
  generalize b.2 = B at e2 ⊢
  rw [Int.mul_add, Int.mul_add, Int.one_mul]
  have f1 : A * B * (N * U) = M * N * (x * B) := by
    have : A * B * (N * U) = B * N * (A * U) := by ac_rfl
    rw [this, e1]
    ac_rfl
  have f2 : A * B * (M * V) = M * N * (y * A) := by
    have : A * B * (M * V) = A * M * (B * V) := by ac_rfl
    rw [this, e2]
    ac_rfl
  rw [f1, f2]
/-! ### products -/
def mv (r : List Int) (a : List Int) (v : Nat → Int) (j : Nat) : Int := sm (dg r) (fun i => a.getD i 0 * tn (dg r) (polyL (ordL r)) i v j)
theorem mulR_len' (one : Int) (i : Nat) (others tot : List Int) : ∀ k, (mulR one i others tot k).length = tot.length
  | 0 => rfl
  | k + 1 => by
    show (List.set _ _ _).length = _
    rw [List.length_set, mulR_len' one i others tot k]
theorem mulGo_len' (ones others : List Int) : ∀ i, (mulGo ones others i).length = ones.length + others.length - 1
  | 0 => by simp [mulGo]
  | i + 1 => by
    show (mulR _ _ _ _ _).length = _
    rw [mulR_len', mulGo_len' ones others i]
theorem dotc_mulR {c : Nat → Int} (one : Int) (i : Nat) (others tot : List Int) : ∀ k, i + k ≤ tot.length → dotc c (mulR one i others tot k) = dotc c tot + sm k (fun m => one * others.getD m 0 * c (i + m))
  | 0, _ => by show dotc c tot = dotc c tot + 0; omega
  | k + 1, h => by
    have ih := dotc_mulR (c := c) one i others tot k (by omega)
    show dotc c ((mulR one i others tot k).set (i + k) ((mulR one i others tot k).getD (i + k) 0 + one * others.getD k 0)) = dotc c tot + (sm k (fun m => one * others.getD m 0 * c (i + m)) + one * others.getD k 0 * c (i + k))
    have st : dotc c ((mulR one i others tot k).set (i + k) ((mulR one i others tot k).getD (i + k) 0 + one * others.getD k 0)) = dotc c (mulR one i others tot k) + one * others.getD k 0 * c (i + k) := by
      unfold dotc
      rw [List.length_set, sm_set (by rw [mulR_len']; omega)]
      congr 2
      omega
    rw [st, ih]
    omega
theorem dotc_mulGo {c : Nat → Int} (ones others : List Int) : ∀ i, i ≤ ones.length → dotc c (mulGo ones others i) = sm i (fun a => sm others.length (fun m => ones.getD a 0 * others.getD m 0 * c (a + m)))
  | 0, _ => dotc_zero _ _
  | i + 1, h => by
    show dotc c (mulR (ones.getD i 0) i others (mulGo ones others i) others.length) = sm i _ + _
    rw [dotc_mulR _ _ _ _ _ (by rw [mulGo_len']; omega), dotc_mulGo ones others i (by omega)]
theorem mulL_len {r : List Int} (h : r ∈ RR) (a b : List Int) : (mulL a b (polyL (ordL r))).length = dg r := redL_len' (by have := poly_len h; omega)
theorem mulL_co {r : List Int} (h : r ∈ RR) {a b : List Int} (ha : a.length = dg r) (hb : b.length = dg r) {j : Nat} (hj : j < dg r) : (mulL a b (polyL (ordL r))).getD j 0 = mv r a (fun k => b.getD k 0) j := by
  unfold mulL
  rw [red_ph (by have := poly_len h; omega) hj]
  show dotc (Tz (dg r) (polyL (ordL r)) j) _ = _
  rw [dotc_mulGo a b _ (Nat.le_refl _), ha, hb]
  refine sm_congr fun i _ => ?_
  unfold tn
  rw [← sm_mul]
  exact sm_congr fun k _ => Int.mul_assoc _ _ _
theorem mv_mul {r : List Int} (a : List Int) (c : Int) (v : Nat → Int) (j : Nat) : mv r a (fun k => c * v k) j = c * mv r a v j := by
  unfold mv
  rw [← sm_mul]
  refine sm_congr fun i _ => ?_
  rw [tn_mul, ← Int.mul_assoc, Int.mul_comm _ c, Int.mul_assoc]
theorem mv_congr {r : List Int} {a : List Int} {v w : Nat → Int} (h : ∀ k, k < dg r → v k = w k) (j : Nat) : mv r a v j = mv r a w j := sm_congr fun i _ => by rw [tn_congr h]
theorem numC_prod {r : List Int} (h : r ∈ RR) {a b : Num} (ha : NumC (dg r) a) (hb : NumC (dg r) b) : NumC (dg r) (prodL (ordL r) a b) := numC_low (mul1 ha.pos hb.pos) (mulL_len h _ _)
theorem Rp_prod {r : List Int} (h : r ∈ RR) {a b : Num} {N : Int} {v : Nat → Int} (ha : NumC (dg r) a) (hb : NumC (dg r) b) (rb : Rp (dg r) b N v) : Rp (dg r) (prodL (ordL r) a b) (a.2 * N) (mv r a.1 v) := by
  refine Rp_of_low (mul1 ha.pos hb.pos) fun j hj => ?_
  rw [mulL_co h ha.len hb.len hj]
  have e1 : b.2 * mv r a.1 v j = N * mv r a.1 (fun k => b.1.getD k 0) j := by
    rw [← mv_mul, ← mv_mul]
    exact mv_congr (fun k hk => rb k hk) j
  have : a.2 * b.2 * mv r a.1 v j = a.2 * (b.2 * mv r a.1 v j) := Int.mul_assoc _ _ _
  rw [this, e1, ← Int.mul_assoc]
theorem mv_TS {r : List Int} (h : r ∈ RR) (a : List Int) (sg : Int) (l : List Int) (W : Nat → Nat → Int) (j : Nat) : Tq r sg l (fun i => mv r a (W i)) j = mv r a (fun k => Tq r sg l W k) j := by
  have d1 := (tabs_of h).d1
  unfold Tq TSf mv
  have e1 : ∀ i, i < dg r → a.getD i 0 * tn (dg r) (polyL (ordL r)) i (fun k => sm (placesL r).length (fun i => tn (dg r) (polyL (ordL r)) (pw r (ordL r) sg ((placesL r).getD i []) l) (W i) k)) j = sm (placesL r).length (fun b => a.getD i 0 * tn (dg r) (polyL (ordL r)) i (tn (dg r) (polyL (ordL r)) (pw r (ordL r) sg ((placesL r).getD b []) l) (W b)) j) := fun i _ => by
    rw [tn_sm, sm_mul]
  rw [sm_congr e1, sm_swap]
  refine sm_congr fun b _ => ?_
  rw [tn_sm]
  refine sm_congr fun i _ => ?_
  rw [tn_mul, tn_tn _ _ _ _ _ _ d1, tn_tn _ _ _ _ _ _ d1, Nat.add_comm]
/-! ### rows -/
structure RowC (r : List Int) (ns : List Num) : Prop where
  len : ns.length = (placesL r).length
  num : ∀ n ∈ ns, NumC (dg r) n
theorem lcmI_dvdL (a b : Int) : a ∣ lcmI a b := by
  unfold lcmI
  refine Int.ofNat_dvd_right.mpr ?_
  rw [Nat.lcm_one_left]
  exact Nat.dvd_lcm_left _ _
theorem lcmI_dvdR (a b : Int) : b ∣ lcmI a b := by
  unfold lcmI
  refine Int.ofNat_dvd_right.mpr ?_
  exact Nat.dvd_lcm_right _ _
theorem lcmI_dvd {a b m : Int} (ha : a ∣ m) (hb : b ∣ m) : lcmI a b ∣ m := by
  unfold lcmI
  refine Int.ofNat_dvd_left.mpr ?_
  rw [Nat.lcm_one_left]
  exact Nat.lcm_dvd (Int.natAbs_dvd_natAbs.mpr ha) (Int.natAbs_dvd_natAbs.mpr hb)
theorem lcmI_pos {a b : Int} (ha : 1 ≤ a) (hb : 1 ≤ b) : 1 ≤ lcmI a b := by
  unfold lcmI
  rw [Nat.lcm_one_left]
  have := Nat.lcm_pos (show 0 < a.natAbs by omega) (show 0 < b.natAbs by omega)
  omega
theorem levGo_dvd : ∀ (ns : List Num) (b : Int), (b ∣ ns.foldl (fun b n => lcmI b n.2) b) ∧ ∀ n ∈ ns, n.2 ∣ ns.foldl (fun b n => lcmI b n.2) b
  | [], b => ⟨Int.dvd_refl _, fun n h => absurd h (by simp)⟩
  | x :: ns, b => by
    have ih := levGo_dvd ns (lcmI b x.2)
    refine ⟨Int.dvd_trans (lcmI_dvdL _ _) ih.1, fun n hn => ?_⟩
    rcases List.mem_cons.mp hn with rfl | hn
    · exact Int.dvd_trans (lcmI_dvdR _ _) ih.1
    · exact ih.2 n hn
theorem levGo_pos : ∀ (ns : List Num) (b : Int), 1 ≤ b → (∀ n ∈ ns, 1 ≤ n.2) → 1 ≤ ns.foldl (fun b n => lcmI b n.2) b
  | [], b, h, _ => h
  | x :: ns, b, h, hn => levGo_pos ns (lcmI b x.2) (lcmI_pos h (hn x List.mem_cons_self)) fun n hm => hn n (List.mem_cons_of_mem _ hm)
theorem levGo_le : ∀ (ns : List Num) (b m : Int), b ∣ m → (∀ n ∈ ns, n.2 ∣ m) → ns.foldl (fun b n => lcmI b n.2) b ∣ m
  | [], b, m, h, _ => h
  | x :: ns, b, m, h, hn => levGo_le ns (lcmI b x.2) m (lcmI_dvd h (hn x List.mem_cons_self)) fun n hm => hn n (List.mem_cons_of_mem _ hm)
theorem levB_dvd {ns : List Num} {n : Num} (h : n ∈ ns) : n.2 ∣ levB ns := (levGo_dvd ns 1).2 n h
theorem levB_pos {ns : List Num} (h : ∀ n ∈ ns, 1 ≤ n.2) : 1 ≤ levB ns := levGo_pos ns 1 (Int.le_refl _) h
theorem levB_le {ns : List Num} {m : Int} (h : ∀ n ∈ ns, n.2 ∣ m) : levB ns ∣ m := levGo_le ns 1 m (Int.one_dvd _) h
theorem levT_len (ns : List Num) : (levT ns).length = ns.length := by simp [levT]
theorem levT_get {ns : List Num} {i : Nat} {n : Num} (h : ns[i]? = some n) : (levT ns).getD i [] = n.1.map fun t => t * (levB ns / n.2) := by
  unfold levT
  rw [List.getD_eq_getElem?_getD, List.getElem?_map, h]
  rfl
theorem Rp_lev {r : List Int} {ns : List Num} {i : Nat} {n : Num} (C : RowC r ns) (h : ns[i]? = some n) : Rp (dg r) n (levB ns) (wv (levT ns) i) := fun k hk => by
  show n.2 * ((levT ns).getD i []).getD k 0 = _
  rw [levT_get h, getD_map (c := fun t => t * (levB ns / n.2)) (Int.zero_mul _)]
  have hm := List.mem_of_getElem? h
  have d := levB_dvd hm
  have e : n.2 * (levB ns / n.2) = levB ns := Int.mul_ediv_cancel' d
  rw [Int.mul_comm (n.1.getD k 0), ← Int.mul_assoc, e]
theorem levT_dg {r : List Int} {ns : List Num} (C : RowC r ns) : ∀ t ∈ levT ns, t.length = dg r := fun t ht => by
  unfold levT at ht
  obtain ⟨n, hn, rfl⟩ := List.mem_map.mp ht
  rw [List.length_map, (C.num n hn).len]
theorem get_lt {α : Type} {l : List α} {i : Nat} (h : i < l.length) : ∃ x, l[i]? = some x := ⟨_, List.getElem?_eq_getElem h⟩
theorem Rp_ts {r : List Int} (h : r ∈ RR) {ns : List Num} (C : RowC r ns) (sg : Int) (l : List Int) {M q : Int} {w : Nat → Nat → Int} (hM : 1 ≤ M) (hq : 1 ≤ q) (hw : ∀ (i : Nat) n, ns[i]? = some n → Rp (dg r) n M (w i)) :
    Rp (dg r) (lowL (tsL r sg l (levT ns)) (levB ns * q)) (M * q) (Tq r sg l w) := by
  have hB : 1 ≤ levB ns := levB_pos fun n hn => (C.num n hn).pos
  refine Rp_of_low (mul1 hB hq) fun j hj => ?_
  rw [tsL_co h sg l (by rw [levT_len, C.len]) (levT_dg C) hj]
  have e : levB ns * Tq r sg l w j = M * Tq r sg l (wv (levT ns)) j := by
    unfold Tq
    rw [← TSf_mul, ← TSf_mul]
    refine TSf_congr fun i hi k hk => ?_
    obtain ⟨n, hn⟩ := get_lt (show i < ns.length by rw [C.len]; exact hi)
    have e1 := hw i n hn k hk
    have e2 := Rp_lev C hn k hk
    have p := (C.num n (List.mem_of_getElem? hn)).pos
    refine icancel p ?_
    have f1 : n.2 * (levB ns * w i k) = levB ns * (n.2 * w i k) := by ac_rfl
    have f2 : n.2 * (M * wv (levT ns) i k) = M * (n.2 * wv (levT ns) i k) := by ac_rfl
    rw [f1, f2, e1, e2]
    ac_rfl
  have f1 : levB ns * q * Tq r sg l w j = q * (levB ns * Tq r sg l w j) := by ac_rfl
  have f2 : M * q * Tq r sg l (wv (levT ns)) j = q * (M * Tq r sg l (wv (levT ns)) j) := by ac_rfl
  rw [f1, f2, e]
theorem voL_get {r : List Int} {ns : List Num} {i : Nat} {n : Num} (h : (voL r ns)[i]? = some n) : i < (placesL r).length ∧ n = lowL (tsL r 1 (pl r i) (levT ns)) (levB ns * 1) := by
  unfold voL at h
  rw [List.getElem?_map] at h
  cases q : (placesL r)[i]? with
  | none => rw [q] at h; cases h
  | some l =>
    rw [q] at h
    refine ⟨(List.getElem?_eq_some_iff.mp q).1, ?_⟩
    rw [← Option.some.inj h, Int.mul_one]
    show lowL (tsL r 1 l (levT ns)) (levB ns) = lowL (tsL r 1 ((placesL r).getD i []) (levT ns)) (levB ns)
    rw [List.getD_eq_getElem?_getD, q]
    rfl
theorem rbL_get {r : List Int} {ns : List Num} {i : Nat} {n : Num} (h : (rbL r ns)[i]? = some n) : i < (placesL r).length ∧ n = lowL (tsL r (-1) (pl r i) (levT ns)) (levB ns * ((placesL r).length : Nat)) := by
  unfold rbL at h
  rw [List.getElem?_map] at h
  cases q : (placesL r)[i]? with
  | none => rw [q] at h; cases h
  | some l =>
    rw [q] at h
    refine ⟨(List.getElem?_eq_some_iff.mp q).1, ?_⟩
    rw [← Option.some.inj h]
    show _ = lowL (tsL r (-1) ((placesL r).getD i []) (levT ns)) _
    rw [List.getD_eq_getElem?_getD, q]
    rfl
theorem pl_pos : ∀ r ∈ RR, 1 ≤ (placesL r).length ∧ (placesL r).length ≤ 16 := by decide +kernel
theorem numC_ts {r : List Int} (h : r ∈ RR) {ns : List Num} (C : RowC r ns) (sg : Int) (l : List Int) {q : Int} (hq : 1 ≤ q) : NumC (dg r) (lowL (tsL r sg l (levT ns)) (levB ns * q)) :=
  numC_low (mul1 (levB_pos fun n hn => (C.num n hn).pos) hq) (tsL_len' h _ _ _)
theorem rowC_vo {r : List Int} (h : r ∈ RR) {ns : List Num} (C : RowC r ns) : RowC r (voL r ns) := by
  refine ⟨by simp [voL], fun n hn => ?_⟩
  obtain ⟨i, hi⟩ := List.getElem?_of_mem hn
  rw [(voL_get hi).2]
  exact numC_ts h C _ _ (by decide)
theorem rowC_rb {r : List Int} (h : r ∈ RR) {ns : List Num} (C : RowC r ns) : RowC r (rbL r ns) := by
  refine ⟨by simp [rbL], fun n hn => ?_⟩
  obtain ⟨i, hi⟩ := List.getElem?_of_mem hn
  rw [(rbL_get hi).2]
  exact numC_ts h C _ _ (by have := pl_pos r h; omega)
theorem Rp_vo {r : List Int} (h : r ∈ RR) {ns : List Num} (C : RowC r ns) {M : Int} {w : Nat → Nat → Int} (hM : 1 ≤ M) (hw : ∀ (i : Nat) n, ns[i]? = some n → Rp (dg r) n M (w i)) {i : Nat} {n : Num} (hn : (voL r ns)[i]? = some n) : Rp (dg r) n M (Tq r 1 (pl r i) w) := by
  rw [(voL_get hn).2, show M = M * 1 by omega]
  exact Rp_ts h C 1 _ hM (by decide) hw
theorem Rp_rb {r : List Int} (h : r ∈ RR) {ns : List Num} (C : RowC r ns) {M : Int} {w : Nat → Nat → Int} (hM : 1 ≤ M) (hw : ∀ (i : Nat) n, ns[i]? = some n → Rp (dg r) n M (w i)) {i : Nat} {n : Num} (hn : (rbL r ns)[i]? = some n) : Rp (dg r) n (M * ((placesL r).length : Nat)) (Tq r (-1) (pl r i) w) := by
  rw [(rbL_get hn).2]
  exact Rp_ts h C (-1) _ hM (by have := pl_pos r h; omega) hw
theorem rows_eq {r : List Int} {as bs : List Num} (ha : RowC r as) (hb : RowC r bs) {M : Int} {w : Nat → Nat → Int} (hM : 1 ≤ M) (h1 : ∀ (i : Nat) n, as[i]? = some n → Rp (dg r) n M (w i)) (h2 : ∀ (i : Nat) n, bs[i]? = some n → Rp (dg r) n M (w i)) : as = bs := by
  refine List.ext_getElem (by rw [ha.len, hb.len]) fun i i1 i2 => ?_
  exact Rp_eq hM (ha.num _ (List.getElem_mem _)) (hb.num _ (List.getElem_mem _)) (h1 i _ (List.getElem?_eq_getElem i1)) (h2 i _ (List.getElem?_eq_getElem i2))
/-- the row behind the voices is the row -/
theorem rb_vo {r : List Int} (h : r ∈ RR) {ns : List Num} (C : RowC r ns) : rbL r (voL r ns) = ns := by
  have hB : 1 ≤ levB ns := levB_pos fun n hn => (C.num n hn).pos
  have p := pl_pos r h
  refine rows_eq (rowC_rb h (rowC_vo h C)) C (mul1 hB (show (1 : Int) ≤ ((placesL r).length : Nat) by omega)) (w := fun i k => ((placesL r).length : Nat) * wv (levT ns) i k) (fun i n hn => ?_) (fun i n hn => ?_)
  · have q := Rp_rb h (rowC_vo h C) hB (w := fun li => Tq r 1 (pl r li) (wv (levT ns))) (fun li m hm => Rp_vo h C hB (fun a b hb => Rp_lev C hb) hm) hn
    refine Rp_congr (fun k hk => ?_) q
    exact inv_ts (tabs_of h) (.inr rfl) (rbL_get hn).1 (wv (levT ns)) hk
  · exact Rp_mul _ (Rp_lev C hn)
/-- the voices of the row behind a row are the row -/
theorem vo_rb {r : List Int} (h : r ∈ RR) {ns : List Num} (C : RowC r ns) : voL r (rbL r ns) = ns := by
  have hB : 1 ≤ levB ns := levB_pos fun n hn => (C.num n hn).pos
  have p := pl_pos r h
  have hM := mul1 hB (show (1 : Int) ≤ ((placesL r).length : Nat) by omega)
  refine rows_eq (rowC_vo h (rowC_rb h C)) C hM (w := fun i k => ((placesL r).length : Nat) * wv (levT ns) i k) (fun i n hn => ?_) (fun i n hn => ?_)
  · have q := Rp_vo h (rowC_rb h C) hM (w := fun li => Tq r (-1) (pl r li) (wv (levT ns))) (fun li m hm => Rp_rb h C hB (fun a b hb => Rp_lev C hb) hm) hn
    refine Rp_congr (fun k hk => ?_) q
    exact inv_ts (tabs_of h) (.inl rfl) (voL_get hn).1 (wv (levT ns)) hk
  · exact Rp_mul _ (Rp_lev C hn)
/-! ### the voice with the origin -/
def vecL (d : Nat) (f : Nat → Int) : List Int := (List.range d).map f
theorem vecL_get {d : Nat} {f : Nat → Int} {k : Nat} (h : k < d) : (vecL d f).getD k 0 = f k := by
  unfold vecL
  rw [List.getD_eq_getElem?_getD, List.getElem?_map, List.getElem?_range h]
  rfl
theorem TS_org {r : List Int} (h : r ∈ RR) (W : Nat → Nat → Int) {j : Nat} (hj : j < dg r) : Tq r 1 (pl r 0) W j = sm (placesL r).length (fun i => W i j) := by
  refine sm_congr fun i hi => ?_
  have : pw r (ordL r) 1 ((placesL r).getD i []) (pl r 0) = 0 := by
    unfold pw
    rw [org_ok r h _ (by rw [List.getD_eq_getElem?_getD, List.getElem?_eq_getElem hi]; exact List.getElem_mem _)]
    rfl
  rw [this, tn_zero hj]
def totL (r : List Int) (ns : List Num) : Num := ns.foldl (fun t n => sumN t n 1) (List.replicate (dg r) 0, 1)
theorem numC_zero (d : Nat) : NumC d (List.replicate d 0, 1) := by
  refine ⟨by simp, Int.le_refl _, ?_⟩
  have g := lowC_dvd (List.replicate d (0 : Int)) 1
  have p := lowC_pos (List.replicate d (0 : Int)) 1 (Int.le_refl _)
  have e : lowC (List.replicate d (0 : Int)) 1 = 1 := by
    have := Int.le_of_dvd (by decide) g.1
    omega
  unfold lowL
  rw [e]
  simp
theorem numC_tot {r : List Int} {ns : List Num} (C : ∀ n ∈ ns, NumC (dg r) n) : ∀ i, NumC (dg r) (totL r (ns.take i))
  | 0 => numC_zero _
  | i + 1 => by
    rw [List.take_succ]
    cases e : ns[i]? with
    | none => simpa using numC_tot C i
    | some n =>
      show NumC (dg r) ((ns.take i ++ [n]).foldl _ _)
      rw [List.foldl_append]
      exact numC_sum (numC_tot C i) (C n (List.mem_of_getElem? e)) 1
theorem Rp_cancel {d : Nat} {n : Num} {M c : Int} {w : Nat → Int} (hc : 1 ≤ c) (q : Rp d n (c * M) (fun k => c * w k)) : Rp d n M w := fun k hk => by
  refine icancel hc ?_
  have := q k hk
  have f1 : c * (n.2 * w k) = n.2 * (c * w k) := by ac_rfl
  rw [f1, this, Int.mul_assoc]
theorem Rp_tot {r : List Int} {ns : List Num} (C : RowC r ns) : ∀ i, i ≤ ns.length → Rp (dg r) (totL r (ns.take i)) (levB ns) (fun k => sm i (fun a => wv (levT ns) a k))
  | 0, _ => fun k hk => by
    show (1 : Int) * 0 = levB ns * (List.replicate (dg r) (0 : Int)).getD k 0
    rw [List.getD_eq_getElem?_getD, List.getElem?_replicate]
    simp [hk]
  | i + 1, hi => by
    have hB : 1 ≤ levB ns := levB_pos fun n hn => (C.num n hn).pos
    have ih := Rp_tot C i (by omega)
    obtain ⟨n, hn⟩ := get_lt (show i < ns.length by omega)
    rw [List.take_succ, hn]
    show Rp (dg r) ((ns.take i ++ [n]).foldl _ _) _ _
    rw [List.foldl_append]
    have q := Rp_sum (numC_tot C.num i) (C.num n (List.mem_of_getElem? hn)) ih (Rp_lev C hn)
    refine Rp_cancel (c := levB ns) hB ?_
    refine Rp_congr (fun k hk => ?_) q
    show _ = levB ns * (sm i (fun a => wv (levT ns) a k) + wv (levT ns) i k)
    rw [Int.mul_add]
/-- the voice with the origin is the sum of the items -/
theorem vo_org {r : List Int} (h : r ∈ RR) {ns : List Num} (C : RowC r ns) : lowL (tsL r 1 (pl r 0) (levT ns)) (levB ns) = totL r ns := by
  have hB : 1 ≤ levB ns := levB_pos fun n hn => (C.num n hn).pos
  have q := Rp_ts h C 1 (pl r 0) hB (Int.le_refl 1) (fun i n hn => Rp_lev C hn)
  have nc := numC_ts h C 1 (pl r 0) (Int.le_refl 1)
  rw [Int.mul_one] at q
  rw [Int.mul_one] at nc
  have t := Rp_tot C ns.length (Nat.le_refl _)
  have tc := numC_tot C.num ns.length
  rw [List.take_length] at t tc
  refine Rp_eq hB nc tc q (Rp_congr (fun k hk => ?_) t)
  rw [TS_org h _ hk, C.len]
/-! ### sums and multiples -/
def nearL (r : List Int) (c : Num) (xs ys : List Num) : List Num := List.zipWith (fun x y => sumN x (prodL (ordL r) c y) 1) xs ys
theorem nearL_get {r : List Int} {c : Num} {xs ys : List Num} {i : Nat} {n : Num} (h : (nearL r c xs ys)[i]? = some n) : ∃ x y, xs[i]? = some x ∧ ys[i]? = some y ∧ n = sumN x (prodL (ordL r) c y) 1 := by
  unfold nearL at h
  rw [List.getElem?_zipWith] at h
  cases e1 : xs[i]? with
  | none => rw [e1] at h; cases h
  | some x =>
    cases e2 : ys[i]? with
    | none => rw [e1, e2] at h; cases h
    | some y =>
      rw [e1, e2] at h
      exact ⟨x, y, rfl, rfl, (Option.some.inj h).symm⟩
theorem rowC_near {r : List Int} (h : r ∈ RR) {c : Num} (hc : NumC (dg r) c) {xs ys : List Num} (X : RowC r xs) (Y : RowC r ys) : RowC r (nearL r c xs ys) := by
  refine ⟨by unfold nearL; rw [List.length_zipWith, X.len, Y.len]; omega, fun n hn => ?_⟩
  obtain ⟨i, hi⟩ := List.getElem?_of_mem hn
  obtain ⟨x, y, e1, e2, rfl⟩ := nearL_get hi
  exact numC_sum (X.num x (List.mem_of_getElem? e1)) (numC_prod h hc (Y.num y (List.mem_of_getElem? e2))) 1
theorem Rp_near {r : List Int} (h : r ∈ RR) {c : Num} (hc : NumC (dg r) c) {xs ys : List Num} (X : RowC r xs) (Y : RowC r ys) {M N : Int} {u v : Nat → Nat → Int} (hu : ∀ (i : Nat) n, xs[i]? = some n → Rp (dg r) n M (u i)) (hv : ∀ (i : Nat) n, ys[i]? = some n → Rp (dg r) n N (v i))
    {i : Nat} {n : Num} (hn : (nearL r c xs ys)[i]? = some n) : Rp (dg r) n (M * (c.2 * N)) (fun k => c.2 * N * u i k + M * mv r c.1 (v i) k) := by
  obtain ⟨x, y, e1, e2, rfl⟩ := nearL_get hn
  have hy := Y.num y (List.mem_of_getElem? e2)
  exact Rp_sum (X.num x (List.mem_of_getElem? e1)) (numC_prod h hc hy) (hu i x e1) (Rp_prod h hc hy (hv i y e2))
/-- the voices of sums and multiples are the sums and multiples -/
theorem vo_near {r : List Int} (h : r ∈ RR) {c : Num} (hc : NumC (dg r) c) {xs ys : List Num} (X : RowC r xs) (Y : RowC r ys) : voL r (nearL r c xs ys) = nearL r c (voL r xs) (voL r ys) := by
  have hA : 1 ≤ levB xs := levB_pos fun n hn => (X.num n hn).pos
  have hB : 1 ≤ levB ys := levB_pos fun n hn => (Y.num n hn).pos
  have hM : 1 ≤ levB xs * (c.2 * levB ys) := mul1 hA (mul1 hc.pos hB)
  refine rows_eq (rowC_vo h (rowC_near h hc X Y)) (rowC_near h hc (rowC_vo h X) (rowC_vo h Y)) hM (w := fun i => Tq r 1 (pl r i) (fun a k => c.2 * levB ys * wv (levT xs) a k + levB xs * mv r c.1 (wv (levT ys) a) k)) (fun i n hn => ?_) (fun i n hn => ?_)
  · exact Rp_vo h (rowC_near h hc X Y) hM (fun a m hm => Rp_near h hc X Y (fun i n e => Rp_lev X e) (fun i n e => Rp_lev Y e) hm) hn
  · have q := Rp_near h hc (rowC_vo h X) (rowC_vo h Y) (u := fun i => Tq r 1 (pl r i) (wv (levT xs))) (v := fun i => Tq r 1 (pl r i) (wv (levT ys))) (fun a m hm => Rp_vo h X hA (fun i n e => Rp_lev X e) hm) (fun a m hm => Rp_vo h Y hB (fun i n e => Rp_lev Y e) hm) hn
    refine Rp_congr (fun k hk => ?_) q
    unfold Tq
    rw [TSf_add, TSf_mul, TSf_mul]
    congr 2
    exact (mv_TS h c.1 1 (pl r i) (wv (levT ys)) k).symm
end K08

/-! The law's ring polynomials. -/
namespace K08
def divsL (e : Int) : List Int := (rgL 1 e.toNat).filter fun d => decide (e % d = 0)
/-- one division from above: what is left, and what was found -/
def rkL (by_ left : List Int) : Nat → List Int × List Int
  | 0 => (left, [])
  | m + 1 => (subN ((rkL by_ left m).1.getD (left.length - by_.length - m + by_.length - 1) 0) by_ (left.length - by_.length - m) (rkL by_ left m).1 by_.length,
      (rkL by_ left m).2 ++ [(rkL by_ left m).1.getD (left.length - by_.length - m + by_.length - 1) 0])
def rstep (left by_ : List Int) : List Int := (rkL by_ left (left.length - by_.length + 1)).2.reverse
def rflt (t : List (Int × List Int)) (d : Int) : List (Int × List Int) := t.filter fun p => decide (d % p.1 = 0)
def rinL (t : List (Int × List Int)) (d : Int) (j : Nat) : List Int := ((rflt t d).take j).foldl (fun left p => rstep left p.2) ([-1] ++ List.replicate (d - 1).toNat 0 ++ [1])
def rtab (e : Int) : Nat → List (Int × List Int)
  | 0 => []
  | i + 1 => rtab e i ++ [((divsL e).getD i 0, rinL (rtab e i) ((divsL e).getD i 0) (rflt (rtab e i) ((divsL e).getD i 0)).length)]
def okTab (t : List (Int × List Int)) : Bool := t.all fun p => decide (1 ≤ p.1) && (decide (2 ≤ p.2.length) && p.2.all fun x => decide (-1000 ≤ x) && decide (x ≤ 1000))
theorem lr_tab : ∀ e ∈ ER, ∀ i ∈ List.range ((divsL e).length + 1), okTab (rtab e i) = true ∧ (rtab e i).map (·.1) = (divsL e).take i ∧ (rtab e i).length < 60 := by decide +kernel
theorem lr_in : ∀ e ∈ ER, ∀ i ∈ List.range (divsL e).length, ∀ j ∈ List.range (rflt (rtab e i) ((divsL e).getD i 0)).length, ((rflt (rtab e i) ((divsL e).getD i 0)).getD j (0, [])).2.length ≤ (rinL (rtab e i) ((divsL e).getD i 0) j).length ∧ (rinL (rtab e i) ((divsL e).getD i 0) j).length ≤ 100 := by decide +kernel
theorem lr_divs : ∀ e ∈ ER, (∀ d ∈ divsL e, 1 ≤ d ∧ d ≤ 60) ∧ (divsL e).length < 60 ∧ (divsL e).Pairwise (· < ·) ∧ 1 ≤ (divsL e).length := by decide +kernel
theorem lr_end : ∀ e ∈ ER, (e, polyL e) ∈ rtab e (divsL e).length := by decide +kernel
theorem rkL_len (by_ left : List Int) : ∀ m, (rkL by_ left m).1.length = left.length ∧ (rkL by_ left m).2.length = m
  | 0 => ⟨rfl, rfl⟩
  | m + 1 => by
    have ih := rkL_len by_ left m
    have gl : ∀ (h : Int) (dv : List Int) (a : Nat) (r : List Int) (k : Nat), (subN h dv a r k).length = r.length := by
      intro h dv a r k
      induction k with
      | zero => rfl
      | succ k ihk =>
        show (List.set _ _ _).length = _
        rw [List.length_set, ihk]
    refine ⟨?_, ?_⟩
    · show (subN _ _ _ _ _).length = _
      rw [gl, ih.1]
    · show (_ ++ [_]).length = _
      rw [List.length_append, ih.2]
      rfl
end K08

/-! The law's own remainder. -/
namespace K08
def mdGo (ring sums : List Int) : Nat → List Int
  | 0 => sums
  | m + 1 => if (mdGo ring sums m).getD (sums.length - 1 - m) 0 = 0 then mdGo ring sums m
    else subN ((mdGo ring sums m).getD (sums.length - 1 - m) 0) ring (sums.length - 1 - m - (ring.length - 1)) (mdGo ring sums m) ring.length
def mdL (ring sums : List Int) : List Int := ((mdGo ring sums (sums.length - (ring.length - 1))) ++ List.replicate (ring.length - 1) 0).take (ring.length - 1)
theorem mdGo_len (ring sums : List Int) : ∀ m, (mdGo ring sums m).length = sums.length
  | 0 => rfl
  | m + 1 => by
    show (if _ then _ else _ : List Int).length = _
    split
    · exact mdGo_len ring sums m
    · rw [subN_len', mdGo_len ring sums m]
theorem subN_get (h : Int) (dv : List Int) (a : Nat) (r : List Int) : ∀ k, a + k ≤ r.length → ∀ i, (subN h dv a r k).getD i 0 = r.getD i 0 - (if a ≤ i ∧ i < a + k then h * dv.getD (i - a) 0 else 0)
  | 0, _, i => by
    rw [if_neg (by omega)]
    show r.getD i 0 = _
    omega
  | k + 1, hk, i => by
    show ((subN h dv a r k).set (a + k) ((subN h dv a r k).getD (a + k) 0 - h * dv.getD k 0)).getD i 0 = _
    rw [getD_set (by rw [subN_len']; omega)]
    have ih := subN_get h dv a r k (by omega)
    by_cases e : i = a + k
    · subst e
      rw [if_pos rfl, ih, if_neg (by omega), if_pos (by omega), show a + k - a = k by omega]
      omega
    · rw [if_neg e, ih]
      by_cases q : a ≤ i ∧ i < a + k
      · rw [if_pos q, if_pos (by omega)]
      · rw [if_neg q, if_neg (by omega)]
theorem md_facts {ring sums : List Int} (h2 : 2 ≤ ring.length) (h1 : ring.getD (ring.length - 1) 0 = 1) (j : Nat) : ∀ m, m ≤ sums.length - (ring.length - 1) →
    ph (ring.length - 1) ring j (mdGo ring sums m) = ph (ring.length - 1) ring j sums ∧ ∀ i, sums.length - m ≤ i → (mdGo ring sums m).getD i 0 = 0
  | 0, _ => ⟨rfl, fun i hi => by
      show sums.getD i 0 = 0
      rw [List.getD_eq_getElem?_getD, List.getElem?_eq_none (by omega)]
      rfl⟩
  | m + 1, hm => by
    have ih := md_facts (sums := sums) h2 h1 j m (by omega)
    have ln := mdGo_len ring sums m
    have e0 : mdGo ring sums (m + 1) = if (mdGo ring sums m).getD (sums.length - 1 - m) 0 = 0 then mdGo ring sums m
      else subN ((mdGo ring sums m).getD (sums.length - 1 - m) 0) ring (sums.length - 1 - m - (ring.length - 1)) (mdGo ring sums m) ring.length := rfl
    rw [e0]
    by_cases z : (mdGo ring sums m).getD (sums.length - 1 - m) 0 = 0
    · rw [if_pos z]
      refine ⟨ih.1, fun i hi => ?_⟩
      by_cases q : i = sums.length - 1 - m
      · rw [q]; exact z
      · exact ih.2 i (by omega)
    · rw [if_neg z]
      generalize htop : (mdGo ring sums m).getD (sums.length - 1 - m) 0 = top at *
      generalize hR : mdGo ring sums m = R at *
      refine ⟨?_, fun i hi => ?_⟩
      · rw [ph_sub _ _ _ _ _ _ _ (by rw [ln]; omega), ih.1]
        have e1 : sm ring.length (fun k => ring.getD k 0 * Tz (ring.length - 1) ring j (sums.length - 1 - m - (ring.length - 1) + k)) = 0 := by
          obtain ⟨d, hd⟩ : ∃ d, ring.length = d + 1 := ⟨ring.length - 1, by omega⟩
          rw [hd] at h1 ⊢
          show sm d _ + ring.getD d 0 * Tz d ring j (sums.length - 1 - m - d + d) = 0
          rw [show d + 1 - 1 = d by omega] at h1
          rw [h1, T_rec]
          show sm d (fun k => ring.getD k 0 * Tz d ring j (sums.length - 1 - m - d + k)) + _ = 0
          omega
        rw [e1]
        omega
      · rw [subN_get _ _ _ _ _ (by rw [ln]; omega)]
        by_cases q : i = sums.length - 1 - m
        · have qt : R.getD i 0 = top := by rw [q]; exact htop
          rw [if_pos (by omega), qt, q, show sums.length - 1 - m - (sums.length - 1 - m - (ring.length - 1)) = ring.length - 1 by omega, h1]
          omega
        · rw [ih.2 i (by omega), if_neg (by omega)]
          rfl
theorem md_red {ring sums : List Int} (h2 : 2 ≤ ring.length) (h1 : ring.getD (ring.length - 1) 0 = 1) : mdL ring sums = redL sums ring := by
  have ln := mdGo_len ring sums (sums.length - (ring.length - 1))
  refine ext_getD ?_ fun j hj => ?_
  · rw [redL_len' (by omega)]
    unfold mdL
    rw [List.length_take, List.length_append, List.length_replicate]
    omega
  · have jd : j < ring.length - 1 := by
      unfold mdL at hj
      rw [List.length_take] at hj
      omega
    rw [red_ph (by omega) jd]
    have F := md_facts (sums := sums) h2 h1 j _ (Nat.le_refl _)
    rw [← F.1]
    unfold mdL
    generalize mdGo ring sums (sums.length - (ring.length - 1)) = R at F ln
    have e2 : ph (ring.length - 1) ring j R = R.getD j 0 := by
      have e : ph (ring.length - 1) ring j R = sm R.length (fun i => if i = j then R.getD i 0 else 0) := by
        unfold ph
        refine sm_congr fun i hi => ?_
        by_cases q : i < ring.length - 1
        · rw [T_lo q]
          by_cases h : i = j
          · rw [if_pos h, if_pos h]; omega
          · rw [if_neg h, if_neg h]; omega
        · rw [F.2 i (by omega), if_neg (by omega)]
          omega
      rw [e, sm_delta]
      by_cases h : j < R.length
      · rw [if_pos h]
      · rw [if_neg h, List.getD_eq_getElem?_getD, List.getElem?_eq_none (by omega)]
        rfl
    rw [e2, List.getD_eq_getElem?_getD, List.getElem?_take_of_lt jd, List.getD_eq_getElem?_getD]
    by_cases h : j < R.length
    · rw [List.getElem?_append_left h]
    · rw [List.getElem?_append_right (by omega), List.getElem?_eq_none (by omega : R.length ≤ j), List.getElem?_replicate]
      split <;> rfl
theorem er_mon : ∀ e ∈ ER, 2 ≤ (polyL e).length ∧ (polyL e).length ≤ 17 ∧ (polyL e).getD ((polyL e).length - 1) 0 = 1 ∧ ∀ d ∈ polyL e, -1000 ≤ d ∧ d ≤ 1000 := by decide +kernel
end K08

/-! How great the numbers get. -/
namespace K08
theorem sm_abs {f : Nat → Int} {c : Nat} : ∀ {n : Nat}, (∀ i, i < n → (f i).natAbs ≤ c) → (sm n f).natAbs ≤ n * c
  | 0, _ => by show (0 : Int).natAbs ≤ _; simp
  | n + 1, h => by
    have ih := sm_abs (n := n) fun i hi => h i (by omega)
    have hn := h n (by omega)
    show (sm n f + f n).natAbs ≤ (n + 1) * c
    rw [Nat.add_mul]
    have := Int.natAbs_add_le (sm n f) (f n)
    omega
theorem tabs_abs : ∀ t ∈ tabs, ∀ col ∈ t.2.2, ∀ x ∈ col, x.natAbs ≤ 2 := by decide +kernel
theorem T_abs {r : List Int} (h : r ∈ RR) {j : Nat} (hj : j < dg r) (i : Nat) : (Tz (dg r) (polyL (ordL r)) j i).natAbs ≤ 2 := by
  have B := tabs_of h
  obtain ⟨t, ht, te⟩ := er_tab _ (ord_er r h)
  have ok := tabs_ok t ht
  have ep : polyL (ordL r) = t.2.1 := by rw [← te]; exact ok.1
  have e0 := B.e0
  have hlt : i % (ordL r).toNat < (ordL r).toNat := Nat.mod_lt _ (by omega)
  have e1 : Tz (dg r) (polyL (ordL r)) j i = Tz (dg r) (polyL (ordL r)) j (i % (ordL r).toNat) := T_eqv (e := (ordL r).toNat) (B.per j hj) (Nat.mod_mod _ _).symm
  rw [e1]
  have hj' : j < t.2.1.length - 1 := by rw [← ep]; exact hj
  have e2 := tab_col ht hj' (i := i % (ordL r).toNat) (by rw [te]; omega)
  show (Tz ((polyL (ordL r)).length - 1) (polyL (ordL r)) j (i % (ordL r).toNat)).natAbs ≤ 2
  rw [ep, ← e2]
  have lc : t.2.2.length = t.2.1.length - 1 := by
    rw [ok.2]
    simp
  have hc : t.2.2.getD j [] ∈ t.2.2 := by
    rw [List.getD_eq_getElem?_getD, List.getElem?_eq_getElem (by omega)]
    exact List.getElem_mem _
  generalize t.2.2.getD j [] = col at hc
  rw [List.getD_eq_getElem?_getD]
  cases q : col[i % (ordL r).toNat]? with
  | none => simp
  | some x => exact tabs_abs t ht _ hc x (List.mem_of_getElem? q)
theorem dg_le {r : List Int} (h : r ∈ RR) : dg r ≤ 16 := by
  have := (er_mon _ (ord_er r h)).2.1
  show (polyL (ordL r)).length - 1 ≤ 16
  omega
theorem tn_abs {r : List Int} (h : r ∈ RR) (p : Nat) {v : Nat → Int} {M : Nat} (hv : ∀ k, k < dg r → (v k).natAbs ≤ M) {j : Nat} (hj : j < dg r) : (tn (dg r) (polyL (ordL r)) p v j).natAbs ≤ 32 * M := by
  have s : (tn (dg r) (polyL (ordL r)) p v j).natAbs ≤ dg r * (M * 2) := sm_abs fun k hk => by
    rw [Int.natAbs_mul]
    exact Nat.mul_le_mul (hv k hk) (T_abs h hj _)
  have e : dg r * (M * 2) ≤ 16 * (M * 2) := Nat.mul_le_mul_right _ (dg_le h)
  omega
theorem TS_abs {r : List Int} (h : r ∈ RR) (sg : Int) (l : List Int) {W : Nat → Nat → Int} {M : Nat} (hW : ∀ i, i < (placesL r).length → ∀ k, k < dg r → (W i k).natAbs ≤ M) {j : Nat} (hj : j < dg r) : (Tq r sg l W j).natAbs ≤ 512 * M := by
  have s : (Tq r sg l W j).natAbs ≤ (placesL r).length * (32 * M) := sm_abs fun i hi => tn_abs h _ (hW i hi) hj
  have e : (placesL r).length * (32 * M) ≤ 16 * (32 * M) := Nat.mul_le_mul_right _ (pl_pos r h).2
  omega
def Abs (M : Nat) (xs : List Int) : Prop := ∀ x ∈ xs, x.natAbs ≤ M
theorem Abs.get {M : Nat} {xs : List Int} (h : Abs M xs) (j : Nat) : (xs.getD j 0).natAbs ≤ M := by
  rw [List.getD_eq_getElem?_getD]
  cases q : xs[j]? with
  | none => simp
  | some x => exact h x (List.mem_of_getElem? q)
theorem Abs.of {M : Nat} {xs : List Int} (h : ∀ j, j < xs.length → (xs.getD j 0).natAbs ≤ M) : Abs M xs := fun x hx => by
  obtain ⟨j, hj⟩ := List.getElem?_of_mem hx
  have := h j (List.getElem?_eq_some_iff.mp hj).1
  rw [List.getD_eq_getElem?_getD, hj] at this
  exact this
theorem low_abs {v : List Int} {b : Int} {M : Nat} (hb : 1 ≤ b) (h : Abs M v) : Abs M (lowL v b).1 := fun t ht => by
  obtain ⟨x, hx, rfl⟩ := List.mem_map.mp ht
  have g := lowC_pos v b hb
  obtain ⟨c, hc⟩ := (lowC_dvd v b).2 x hx
  have e1 : x / lowC v b = c := by
    conv => lhs; lhs; rw [hc]
    exact Int.mul_ediv_cancel_left _ (by omega)
  rw [e1]
  have := h x hx
  rw [hc, Int.natAbs_mul] at this
  have g1 : 1 ≤ (lowC v b).natAbs := by omega
  have : 1 * c.natAbs ≤ (lowC v b).natAbs * c.natAbs := Nat.mul_le_mul_right _ g1
  omega
/-- rows with small bottoms -/
structure RowS (r : List Int) (D : Int) (ns : List Num) : Prop where
  c : RowC r ns
  d : ∀ n ∈ ns, n.2 ∣ D
theorem RowS.lev {r : List Int} {D : Int} {ns : List Num} (h : RowS r D ns) (hD : 1 ≤ D) (i : Nat) : 1 ≤ levB (ns.take i) ∧ levB (ns.take i) ∣ D ∧ levB (ns.take i) ≤ D := by
  have hm : ∀ n ∈ ns.take i, n ∈ ns := fun n hn => List.mem_of_mem_take hn
  have d := levB_le (ns := ns.take i) (m := D) fun n hn => h.d n (hm n hn)
  exact ⟨levB_pos fun n hn => (h.c.num n (hm n hn)).pos, d, Int.le_of_dvd (by omega) d⟩
theorem RowS.g {r : List Int} (hr : r ∈ RR) {D : Int} {ns : List Num} (h : RowS r D ns) (hD : 1 ≤ D) (hD2 : D ≤ 1000) : RowG r ns := by
  refine ⟨⟨h.c.len, fun n hn => ?_, fun i _ => ?_⟩, fun n hn => ?_⟩
  · have c := h.c.num n hn
    have := Int.le_of_dvd (by omega) (h.d n hn)
    exact ⟨c.pos, by omega, by rw [c.len]; have := dg_le hr; omega⟩
  · have := h.lev hD i
    exact ⟨this.1, by omega⟩
  · have c := h.c.num n hn
    have := Int.le_of_dvd (by omega) (h.d n hn)
    exact ⟨by rw [c.len, (poly_len hr).2.1], c.pos, by omega, c.low⟩
theorem rowS_vo {r : List Int} (hr : r ∈ RR) {D : Int} {ns : List Num} (h : RowS r D ns) (hD : 1 ≤ D) : RowS r D (voL r ns) := by
  refine ⟨rowC_vo hr h.c, fun n hn => ?_⟩
  obtain ⟨i, hi⟩ := List.getElem?_of_mem hn
  have l := h.lev hD ns.length
  rw [List.take_length] at l
  rw [(voL_get hi).2]
  refine Int.dvd_trans (low_dvd _ _ (by omega)) ?_
  rw [Int.mul_one]
  exact l.2.1
theorem rowS_rb {r : List Int} (hr : r ∈ RR) {D : Int} {ns : List Num} (h : RowS r D ns) (hD : 1 ≤ D) : RowS r (D * ((placesL r).length : Nat)) (rbL r ns) := by
  refine ⟨rowC_rb hr h.c, fun n hn => ?_⟩
  obtain ⟨i, hi⟩ := List.getElem?_of_mem hn
  have l := h.lev hD ns.length
  rw [List.take_length] at l
  have p := pl_pos r hr
  rw [(rbL_get hi).2]
  refine Int.dvd_trans (low_dvd _ _ (mul1 l.1 (by omega))) ?_
  exact Int.mul_dvd_mul_right _ l.2.1
theorem rowS_near {r : List Int} (hr : r ∈ RR) {c : Num} (hc : NumC (dg r) c) {D C : Int} (hcd : c.2 ∣ C) {xs ys : List Num} (X : RowS r D xs) (Y : RowS r D ys) : RowS r (D * (C * D)) (nearL r c xs ys) := by
  refine ⟨rowC_near hr hc X.c Y.c, fun n hn => ?_⟩
  obtain ⟨i, hi⟩ := List.getElem?_of_mem hn
  obtain ⟨x, y, e1, e2, rfl⟩ := nearL_get hi
  have mx := List.mem_of_getElem? e1
  have my := List.mem_of_getElem? e2
  have cx := X.c.num x mx
  have cy := Y.c.num y my
  have cp := numC_prod hr hc cy
  refine Int.dvd_trans (low_dvd _ _ (mul1 cx.pos cp.pos)) ?_
  refine Int.mul_dvd_mul (X.d x mx) ?_
  refine Int.dvd_trans (low_dvd _ _ (mul1 hc.pos cy.pos)) ?_
  exact Int.mul_dvd_mul hcd (Y.d y my)
/-! ### rows of no great ints -/
def AbsR (M : Nat) (ns : List Num) : Prop := ∀ n ∈ ns, Abs M n.1
theorem abs_lev {r : List Int} {ns : List Num} {M : Nat} (hD : levB ns ≤ 1000) (C : RowC r ns) (h : AbsR M ns) {i : Nat} (hi : i < (placesL r).length) (k : Nat) : (wv (levT ns) i k).natAbs ≤ M * 1000 := by
  obtain ⟨n, hn⟩ := get_lt (show i < ns.length by rw [C.len]; exact hi)
  have hm := List.mem_of_getElem? hn
  show (((levT ns).getD i []).getD k 0).natAbs ≤ _
  rw [levT_get hn, getD_map (c := fun t => t * (levB ns / n.2)) (Int.zero_mul _), Int.natAbs_mul]
  have p := (C.num n hm).pos
  have b1 : 1 ≤ levB ns := levB_pos fun n hn => (C.num n hn).pos
  have q0 : 0 ≤ levB ns / n.2 := Int.ediv_nonneg (by omega) (by omega)
  have q1 : levB ns / n.2 ≤ levB ns := Int.ediv_le_self _ (by omega)
  exact Nat.mul_le_mul ((h n hm).get k) (by omega)
theorem abs_ts {r : List Int} (hr : r ∈ RR) {ns : List Num} {M : Nat} (hD : levB ns ≤ 1000) (C : RowC r ns) (h : AbsR M ns) (sg : Int) (l : List Int) {b : Int} (hb : 1 ≤ b) : Abs (512000 * M) (lowL (tsL r sg l (levT ns)) b).1 := by
  refine low_abs hb (Abs.of fun j hj => ?_)
  rw [tsL_len' hr] at hj
  rw [tsL_co hr sg l (by rw [levT_len, C.len]) (levT_dg C) hj]
  have := TS_abs hr sg l (W := wv (levT ns)) (M := M * 1000) (fun i hi k _ => abs_lev hD C h hi k) hj
  omega
theorem abs_vo {r : List Int} (hr : r ∈ RR) {ns : List Num} {M : Nat} (hD : levB ns ≤ 1000) (C : RowC r ns) (h : AbsR M ns) : AbsR (512000 * M) (voL r ns) := fun n hn => by
  obtain ⟨i, hi⟩ := List.getElem?_of_mem hn
  rw [(voL_get hi).2]
  exact abs_ts hr hD C h _ _ (by have := levB_pos fun n hn => (C.num n hn).pos; omega)
theorem abs_rb {r : List Int} (hr : r ∈ RR) {ns : List Num} {M : Nat} (hD : levB ns ≤ 1000) (C : RowC r ns) (h : AbsR M ns) : AbsR (512000 * M) (rbL r ns) := fun n hn => by
  obtain ⟨i, hi⟩ := List.getElem?_of_mem hn
  have p := pl_pos r hr
  rw [(rbL_get hi).2]
  exact abs_ts hr hD C h _ _ (mul1 (levB_pos fun n hn => (C.num n hn).pos) (by omega))
theorem abs_sum {d : Nat} {a b : Num} {M N : Nat} (ha : NumC d a) (hb : NumC d b) (h1 : a.2 ≤ 1000) (h2 : b.2 ≤ 1000) (ma : Abs M a.1) (mb : Abs N b.1) : Abs (1000 * M + 1000 * N) (sumN a b 1).1 := by
  refine low_abs (mul1 ha.pos hb.pos) (Abs.of fun j hj => ?_)
  rw [sumT_len] at hj
  rw [sumT_get hj, Int.one_mul]
  have p1 := ha.pos
  have p2 := hb.pos
  have e1 : (a.1.getD j 0 * b.2).natAbs ≤ M * 1000 := by
    rw [Int.natAbs_mul]
    exact Nat.mul_le_mul (ma.get j) (by omega)
  have e2 : (b.1.getD j 0 * a.2).natAbs ≤ N * 1000 := by
    rw [Int.natAbs_mul]
    exact Nat.mul_le_mul (mb.get j) (by omega)
  have := Int.natAbs_add_le (a.1.getD j 0 * b.2) (b.1.getD j 0 * a.2)
  omega
theorem abs_prod {r : List Int} (hr : r ∈ RR) {a b : Num} {M N : Nat} (ha : NumC (dg r) a) (hb : NumC (dg r) b) (ma : Abs M a.1) (mb : Abs N b.1) : Abs (512 * (M * N)) (prodL (ordL r) a b).1 := by
  refine low_abs (mul1 ha.pos hb.pos) (Abs.of fun j hj => ?_)
  rw [mulL_len hr] at hj
  rw [mulL_co hr ha.len hb.len hj]
  have s : (mv r a.1 (fun k => b.1.getD k 0) j).natAbs ≤ dg r * (M * (32 * N)) := sm_abs fun i _ => by
    rw [Int.natAbs_mul]
    exact Nat.mul_le_mul (ma.get i) (tn_abs hr _ (fun k _ => mb.get k) hj)
  have e : dg r * (M * (32 * N)) ≤ 16 * (M * (32 * N)) := Nat.mul_le_mul_right _ (dg_le hr)
  have e2 : M * (32 * N) = 32 * (M * N) := by ac_rfl
  omega
theorem abs_near {r : List Int} (hr : r ∈ RR) {c : Num} (hc : NumC (dg r) c) {D C : Int} (hD : 1 ≤ D) (hC : 1 ≤ C) (hDC : C * D ≤ 1000) (hD2 : D ≤ 1000) (hcd : c.2 ∣ C) {xs ys : List Num} {M N : Nat} (X : RowS r D xs) (Y : RowS r D ys) (mc : Abs 3 c.1) (mx : AbsR M xs) (my : AbsR N ys) : AbsR (1000 * M + 1000 * (512 * (3 * N))) (nearL r c xs ys) := fun n hn => by
  obtain ⟨i, hi⟩ := List.getElem?_of_mem hn
  obtain ⟨x, y, e1, e2, rfl⟩ := nearL_get hi
  have m1 := List.mem_of_getElem? e1
  have m2 := List.mem_of_getElem? e2
  have cx := X.c.num x m1
  have cy := Y.c.num y m2
  have bx := Int.le_of_dvd (by omega) (X.d x m1)
  have pd : (prodL (ordL r) c y).2 ∣ C * D := Int.dvd_trans (low_dvd _ _ (mul1 hc.pos cy.pos)) (Int.mul_dvd_mul hcd (Y.d y m2))
  have pl := Int.le_of_dvd (by have := mul1 hC hD; omega) pd
  exact abs_sum cx (numC_prod hr hc cy) (by omega) (by omega) (mx x m1) (abs_prod hr hc cy mc (my y m2))
end K08

/-! The text by places; heaps. -/
namespace K08
open PySem PySem.Spec PyProof.Rows L2
def top (i : Nat) : Stmt := PySem.Challenge.pw_ringvoices_k08_whole_voices_and_rows_bac.main.body.getD i (.Pass ⟨0, 0, 0, 0⟩)
abbrev sUnits : Stmt := top 15
abbrev sPrimes : Stmt := top 16
abbrev sPlaces : Stmt := top 11
abbrev sOrder : Stmt := top 12
abbrev sPaired : Stmt := top 13
abbrev sPoly : Stmt := top 18
abbrev sStr : Stmt := top 19
abbrev sDiv : Stmt := top 20
abbrev sRed : Stmt := top 21
abbrev sFInit : Stmt := inClass (top 25) 0
abbrev sFPair : Stmt := inClass (top 25) 1
abbrev sIsInt : Stmt := top 27
abbrev sIsInts : Stmt := top 28
abbrev sAre : Stmt := top 42
abbrev sSize : Stmt := top 43
abbrev sChkR : Stmt := top 44
abbrev sIsPl : Stmt := top 45
abbrev sChkP : Stmt := top 46
abbrev sOrdOf : Stmt := top 48
abbrev sMulP : Stmt := top 22
abbrev sLow : Stmt := top 23
abbrev sIsOrd : Stmt := top 31
abbrev sChkO : Stmt := top 32
abbrev sChkN : Stmt := top 33
abbrev sIsNum : Stmt := top 34
abbrev sTimes : Stmt := top 37
abbrev sProd : Stmt := top 38
abbrev sPlus : Stmt := top 35
abbrev sSumN : Stmt := top 36
abbrev sSizeOf : Stmt := top 47
abbrev sLev : Stmt := top 50
abbrev sTSum : Stmt := top 51
abbrev sVOf : Stmt := top 52
abbrev sBehind : Stmt := top 53
abbrev sIsZero : Stmt := top 54
abbrev sIsRow : Stmt := top 56
abbrev sIsWhole : Stmt := top 57
abbrev sChkRow : Stmt := top 58
abbrev sChkWhole : Stmt := top 59
abbrev sRowOf : Stmt := top 60
abbrev sWholeOf : Stmt := top 61
abbrev sVoice : Stmt := top 62
abbrev sVoices : Stmt := top 63
abbrev sBack : Stmt := top 64
abbrev sFilled : Stmt := top 65
abbrev sSounding : Stmt := top 66
abbrev sSome : Stmt := top 67
abbrev sFTops : Stmt := inClass (top 25) 2
abbrev sDeck : Stmt := top 69
abbrev sDraw : Stmt := top 70
abbrev sPick : Stmt := top 71
abbrev sLGcd : Stmt := top 72
abbrev sLOrder : Stmt := top 73
abbrev sLPlaces : Stmt := top 74
abbrev sLRing : Stmt := top 75
abbrev sLMade : Stmt := top 76
abbrev sLTimes : Stmt := top 77
abbrev sLPlus : Stmt := top 78
abbrev sLRings : Stmt := top 79
abbrev sLNumber : Stmt := top 80
abbrev sLVoices : Stmt := top 81
abbrev sLRow : Stmt := top 82
abbrev sLIsZero : Stmt := top 83
abbrev sLWholeOf : Stmt := top 84
abbrev sLaw : Stmt := top 85
abbrev FnP (K : PySem.W.Frag) (x : Str) (st : Stmt) (f : Addr) (fd : FuncData) : Prop := FunD K x x (defArgs st) (defBody st) (defScope st) [] [] f fd
def blt : List Str := ["int", "bool", "list", "len", "isinstance", "tuple", "abs", "max", "min", "range", "repr", "sum", "all", "sorted", "set", "enumerate", "zip"]
/-- the names that the module leaves to the built-ins -/
def Bl (mg : Str → Option Value) : Prop := ∀ x ∈ blt, mg x = none
/-! ### heaps -/
theorem same_new {H H1 : Hp} {p : Addr} {o : HO} (e : Same H H1) (h : H1 p = none) : Same H (upd H1 p o) := fun b u q => by
  have q1 := e b u q
  rw [upd_ne (ne_of_none q1 h)]
  exact q1
theorem same_at {H H1 : Hp} {p : Addr} {o : HO} (e : Same H H1) (h : H p = none) : Same H (upd H1 p o) := fun b u q => by
  rw [upd_ne (ne_of_none q h)]
  exact e b u q
theorem same_upd {H : Hp} {p : Addr} {o : HO} (h : H p = none) : Same H (upd H p o) := same_new (Same.refl H) h
theorem SqT.ext {K : PySem.W.Frag} {H H' : Hp} {a : Addr} {xs : List V} (h : SqT K H a xs) (e : Same H H') : SqT K H' a xs := by
  rcases h with h | h
  · rcases h with h | ⟨o, h⟩
    · exact .inl (.inl (e _ _ h))
    · exact .inl (.inr ⟨o, e _ _ h⟩)
  · exact .inr h
theorem _root_.L2.Same.tup {K : PySem.W.Frag} {H H' : Hp} {a : Addr} {xs : List V} (e : Same H H') (h : SqT K H a xs) : SqT K H' a xs := SqT.ext h e
theorem _root_.L2.Same.tupI {K : PySem.W.Frag} {H H' : Hp} {v : V} {ns : List Int} (e : Same H H') (h : TupI K H v ns) : TupI K H' v ns := by
  obtain ⟨t, rfl, q⟩ := h
  exact ⟨t, rfl, SqT.ext q e⟩
theorem tupI_of {K : PySem.W.Frag} {H : Hp} {p : Addr} {ns : List Int} (h : H p = some (.tup (ns.map V.int))) : TupI K H (.ref p) ns := ⟨p, rfl, SqT.of h⟩
/-- tuples of ints, at their addresses -/
abbrev TL (K : PySem.W.Frag) (H : Hp) (ks : List (Addr × List Int)) : Prop := ∀ p ∈ ks, SqT K H p.1 (p.2.map V.int)
abbrev rf (ks : List (Addr × List Int)) : List V := ks.map fun p => V.ref p.1
theorem _root_.L2.Same.tl {K : PySem.W.Frag} {H H' : Hp} {ks : List (Addr × List Int)} (e : Same H H') (h : TL K H ks) : TL K H' ks := fun p hp => SqT.ext (h p hp) e
theorem tl_nil {K : PySem.W.Frag} {H : Hp} : TL K H [] := fun p hp => absurd hp (by simp)
theorem tl_snoc {K : PySem.W.Frag} {H : Hp} {ks : List (Addr × List Int)} {a : Addr} {ns : List Int} (h : TL K H ks) (q : SqT K H a (ns.map V.int)) : TL K H (ks ++ [(a, ns)]) := fun p hp => by
  rcases List.mem_append.mp hp with z | z
  · exact h p z
  · rw [List.mem_singleton.mp z]
    exact q
theorem sqt_at {K : PySem.W.Frag} {H : Hp} {a D : Addr} {xs ys : List V} {o : HO} (h : SqT K H a xs) (hD : H D = some (.lst ys)) : SqT K (upd H D o) a xs := by
  rcases h with h | h
  · rcases h with h | ⟨u, h⟩
    · exact .inl (.inl (by rw [upd_ne (ne_of h hD (by intro z; cases z))]; exact h))
    · exact .inl (.inr ⟨u, by rw [upd_ne (ne_of h hD (by intro z; cases z))]; exact h⟩)
  · exact .inr h
theorem tl_at {K : PySem.W.Frag} {H : Hp} {D : Addr} {ks : List (Addr × List Int)} {ys : List V} {o : HO} (h : TL K H ks) (hD : H D = some (.lst ys)) : TL K (upd H D o) ks := fun p hp => sqt_at (h p hp) hD
/-- a list of places, at a -/
def PlL (K : PySem.W.Frag) (H : Hp) (a : Addr) (ps : List (List Int)) : Prop := ∃ ks, H a = some (.lst (rf ks)) ∧ ks.map (·.2) = ps ∧ TL K H ks
theorem _root_.L2.Same.pll {K : PySem.W.Frag} {H H' : Hp} {a : Addr} {ps : List (List Int)} (e : Same H H') (h : PlL K H a ps) : PlL K H' a ps := by
  obtain ⟨ks, h1, h2, h3⟩ := h
  exact ⟨ks, e _ _ h1, h2, fun p hp => SqT.ext (h3 p hp) e⟩
theorem getI {ns : List Int} {i : Nat} {y : V} (h : (ns.map V.int)[i]? = some y) : ∃ c, y = V.int c ∧ ns[i]? = some c := by
  rw [List.getElem?_map] at h
  cases e : ns[i]? with
  | none =>
    rw [e] at h
    cases h
  | some c =>
    rw [e] at h
    exact ⟨c, (Option.some.inj h).symm, rfl⟩
theorem getR {ks : List (Addr × List Int)} {i : Nat} {y : V} (h : (rf ks)[i]? = some y) : ∃ p, y = V.ref p.1 ∧ ks[i]? = some p := by
  rw [List.getElem?_map] at h
  cases e : ks[i]? with
  | none =>
    rw [e] at h
    cases h
  | some c =>
    rw [e] at h
    exact ⟨c, (Option.some.inj h).symm, rfl⟩
theorem ofI {ns : List Int} {i : Nat} {c : Int} (h : ns[i]? = some c) : (ns.map V.int)[i]? = some (V.int c) := by
  rw [List.getElem?_map, h]
  rfl
theorem takeS {α : Type} {l : List α} {i : Nat} {x : α} (h : l[i]? = some x) : l.take (i + 1) = l.take i ++ [x] := by
  rw [List.take_succ, h]
  rfl
theorem ltL {α : Type} {l : List α} {i : Nat} {x : α} (h : l[i]? = some x) : i < l.length := (List.getElem?_eq_some_iff.mp h).1
theorem sl_1000 {n : Nat} (h : n ≤ 100000) : n ≤ sizeLine := by
  rw [sizeLine_eq]
  omega
theorem sl_lt {n : Nat} (h : n ≤ 100000) : n < sizeLine := by
  rw [sizeLine_eq]
  omega
end K08

namespace K08
open PySem PySem.Spec PyProof.Rows L2
open_top hd0 for PySem.Challenge.rw_ringvoices_k08_whole_voices_and_rows_bac
end K08

namespace K08
open PySem PySem.Spec PyProof.Rows L2
section
variable {P : Program} {w : World} {K : PySem.W.Frag} {mg : Str → Option Value} {base : Heap} {f : Addr} {fd : FuncData}
theorem eqI {a b : Int} (c : decide (V.int a = V.int b) = true) : a = b := V.int.inj (of_decide_eq_true c)
theorem neI {a b : Int} (c : ¬ decide (V.int a = V.int b) = true) : ¬ a = b := fun e => c (by rw [e]; exact decide_eq_true rfl)
/-! ### units_of -/
def spUnits : Sp := fun vs H Q _ => ∃ e : Int, vs = [.int e] ∧ 1 ≤ e ∧ e ≤ 60 ∧ ∀ p H', Same H H' → H p = none → H' p = some (.lst ((unitsL e).map V.int)) → Q (.ref p) H'
theorem scUnits : FnScope ["order", "j"] ["order"] (defScope sUnits) := ⟨rfl, rfl, rfl, by decide +kernel, rfl, by decide +kernel, by decide +kernel⟩
theorem rgF_succ (p : Int → Bool) (lo : Int) (n : Nat) : (rgL lo (n + 1)).filter p = if p (lo + (n : Int)) = true then (rgL lo n).filter p ++ [lo + (n : Int)] else (rgL lo n).filter p := by
  rw [rgL_succ, List.filter_append]
  by_cases h : p (lo + (n : Int)) = true
  · rw [if_pos h]
    simp [h]
  · rw [if_neg h]
    simp [h]
theorem ok_units (F : FnP K "units_of" sUnits f fd) (B : Bl mg) (gG : mg "gcd" = some (.builtin "math.gcd")) : FnOk P w K mg base CX0 1 f fd ["order"] spUnits := by
  refine F.ok scUnits (fun vs H Q E h => ?_) (fun cdv A outer s H vs Q E hr h => ?_)
  · obtain ⟨e, rfl, _⟩ := h
    rfl
  · obtain ⟨e, rfl, h1, h2, k⟩ := h
    refine ⟨_, PSs.nox (pss_one (ps_ret (pe_lc (own := [("j", 1)]) (g := gName 1) (te := tVar 1) rfl scUnits.nd (pi_range2 rfl (B "range" (by decide +kernel)) (pa_cons pe_int (pa_cons (pe_op op_add (pv 0) pe_int) pa_nil)))
      (blkOk_by (own := [("j", 1)]) (N := ["order", "j"]) (sc := defScope sUnits) (by decide +kernel)) (fun _ _ _ _ _ => pg_name (i := 1) scUnits.nd rfl (Or.inl rfl)) (fun _ _ _ _ _ => pts_one (pt_cmpR op_eq (pe_callBfun cr_gcd rfl gG (pa_cons (pv 1) (pa_cons (pv 0) pa_nil))) pe_int (nomark _))) (fun _ _ _ _ _ => pv 1)))), ?_⟩
    refine ⟨_, rfl, _, _, rfl, rfl, 1, e + 1, rfl, ⟨by omega, by omega, by omega, by omega⟩, fun D hD => ?_⟩
    have en : (e + 1 - 1).toNat = e.toNat := by
      congr 1
      omega
    rw [en]
    refine lc_range (lo := 1) (n := e.toNat) (fun i H2 => Same H H2 ∧ H2 D = some (.lst (((rgL 1 i).filter fun j => decide (gcdI j e = 1)).map V.int))) ⟨same_upd hD, upd_same⟩ ?_ ?_
    · rintro i H2 hi ⟨s2, h2⟩
      refine ⟨rfl, _, rfl, _, rfl, _, _, rfl, rfl, _, rfl, ?_⟩
      refine ite2 (fun c => ?_) (fun c => ?_)
      · have c1 : gcdI (1 + (i : Int)) e = 1 := eqI c
        refine ⟨_, rfl, _, h2, sl_lt ?_, same_at s2 hD, ?_⟩
        · rw [List.length_map]
          exact Nat.le_trans (List.length_filter_le _ _) (by rw [rgL_len]; omega)
        · rw [upd_same, rgF_succ, if_pos (decide_eq_true c1), List.map_append]
          rfl
      · have c1 : ¬ gcdI (1 + (i : Int)) e = 1 := neI c
        exact ⟨s2, by rw [rgF_succ, if_neg (by simp [c1])]; exact h2⟩
    · rintro H2 ⟨s2, h2⟩
      exact k D H2 s2 hD h2
end
end K08

namespace K08
open PySem PySem.Spec PyProof.Rows L2
abbrev rMod : R2 := rI (fun _ j => 0 < j) fun i j => .int (i % j)
abbrev rMul : R2 := rI CMul fun i j => .int (i * j)
abbrev rFdv : R2 := rI CDiv fun i j => .int (i / j)
abbrev rPlus : R2 := rI0 fun i j => .int (i + j)
abbrev rMinus : R2 := rI0 fun i j => .int (i - j)
section
variable {X : Cx}
def rLcm : List V → Hp → VK → Prop := fun vs H Q => ∃ a b : Int, vs = [.int a, .int b] ∧ a.natAbs < 2 ^ 64 ∧ b.natAbs < 2 ^ 64 ∧ (lcmI a b).natAbs ≤ 1000 ∧ Q (.int (lcmI a b)) H
theorem cr_lcm : CallR X (.builtin "math.lcm") rLcm := by
  intro pins s σ H vs us Q I r h
  obtain ⟨a, b, rfl, h1, h2, h3, q⟩ := h
  obtain ⟨t, u, rfl⟩ := Vals.int2 r
  exact PySem.W.mg_lcm h1 h2 (Nat.lt_of_le_of_lt (Nat.le_trans (Nat.log2_le_self _) h3) (by decide)) ⟨.int _, H, I.tok _, ⟨_, rfl⟩, q⟩
end
/-! ### facts of the fourteen rings -/
theorem rr_ord : ∀ r ∈ RR, ∀ i ∈ List.range (r.length + 1), (ordL (r.take i)).natAbs ≤ 60 := by decide +kernel
theorem rr_pos : ∀ r ∈ RR, ∀ l ∈ r, 2 ≤ l ∧ l ≤ 60 := by decide +kernel
theorem rr_len : ∀ r ∈ RR, 1 ≤ r.length ∧ r.length ≤ 4 := by decide +kernel
section
variable {P : Program} {w : World} {K : PySem.W.Frag} {mg : Str → Option Value} {base : Heap} {f : Addr} {fd : FuncData}
/-! ### common_order -/
def spOrder (K : PySem.W.Frag) : Sp := fun vs H Q _ => ∃ (v : V) (r : List Int), vs = [v] ∧ TupI K H v r ∧ r ∈ RR ∧ ∀ H', Same H H' → Q (.int (ordL r)) H'
theorem scOrder : FnScope ["rings", "order", "length"] ["rings"] (defScope sOrder) := ⟨rfl, rfl, rfl, by decide +kernel, rfl, by decide +kernel, by decide +kernel⟩
theorem ord_take {r : List Int} {i : Nat} {x : Int} (h : r[i]? = some x) : ordL (r.take (i + 1)) = lcmI (ordL (r.take i)) x := by
  rw [takeS h]
  unfold ordL
  rw [List.foldl_append]
  rfl
theorem ok_order (F : FnP K "common_order" sOrder f fd) (B : Bl mg) (gL : mg "lcm" = some (.builtin "math.lcm")) : FnOk P w K mg base CX0 1 f fd ["rings"] (spOrder K) := by
  refine F.ok scOrder (fun vs H Q E h => ?_) (fun cdv A outer s H vs Q E hr h => ?_)
  · obtain ⟨v, r, rfl, _⟩ := h
    rfl
  · obtain ⟨v, r, rfl, ⟨a, rfl, ha⟩, h14, k⟩ := h
    refine ⟨_, PSs.nox (pss_cons (ps_set (i := 1) scOrder.nd rfl (Or.inl rfl) pe_int)
      (pss_cons (ps_for PassesOwn.never rfl (pi_tup (pv 0)) (pg_name (i := 2) scOrder.nd rfl (Or.inl rfl)) (pss_one (ps_set (i := 1) scOrder.nd rfl (Or.inl rfl) (pe_callBfun cr_lcm rfl gL (pa_cons (pv 1) (pa_cons (pv 2) pa_nil))))))
      (pss_one (ps_ret (pv 1))))), ?_⟩
    refine ⟨_, rfl, a, rfl, ⟨_, ha⟩, for_tup (K := K) (a := a) (xs := r.map V.int) (fun i σ H2 => ∃ u, σ = [some (.ref a), some (.int (ordL (r.take i))), u] ∧ H2 = H) ⟨none, rfl, rfl⟩ (fun i σ H2 _ ⟨_, _, e⟩ => by rw [e]; exact ha) ?_ ?_⟩
    · rintro i y σ H2 hi ⟨u, rfl, rfl⟩
      obtain ⟨c, rfl, hc⟩ := getI hi
      have hl := ltL hc
      have hb := rr_pos r h14 c (List.mem_of_getElem? hc)
      have h1 := rr_ord r h14 i (List.mem_range.mpr (by omega))
      have h2 := rr_ord r h14 (i + 1) (List.mem_range.mpr (by omega))
      rw [ord_take hc] at h2
      exact ⟨_, rfl, _, rfl, _, _, rfl, by omega, by omega, by omega, some (.int c), by rw [ord_take hc]; rfl, rfl⟩
    · rintro σ H2 ⟨u, rfl, rfl⟩
      refine ⟨_, rfl, ?_⟩
      rw [List.length_map, List.take_length]
      exact k _ (Same.refl _)
/-! ### repeated -/
theorem getD_of {l : List Int} {i : Nat} (h : i < l.length) : (l.map V.int)[i]? = some (V.int (l.getD i 0)) := by
  refine ofI ?_
  rw [List.getElem?_eq_getElem h, List.getD_eq_getElem?_getD, List.getElem?_eq_getElem h]
  rfl
theorem rr_get {r : List Int} (h : r ∈ RR) {i : Nat} (hi : i < r.length) : 2 ≤ r.getD i 0 ∧ r.getD i 0 ≤ 60 := by
  rw [List.getD_eq_getElem?_getD, List.getElem?_eq_getElem hi]
  exact rr_pos r h _ (List.getElem_mem hi)
end
end K08

namespace K08
open PySem PySem.Spec PyProof.Rows L2
section
variable {P : Program} {w : World} {K : PySem.W.Frag} {mg : Str → Option Value} {base : Heap} {f : Addr} {fd : FuncData}
/-! ### paired -/
def spPaired (K : PySem.W.Frag) : Sp := fun vs H Q _ => ∃ (v u z : V) (r p l : List Int) (e : Int), vs = [v, .int e, u, z] ∧ TupI K H v r ∧ TupI K H u p ∧ TupI K H z l ∧ r ∈ RR ∧ p.length = r.length ∧ l.length = r.length ∧ (∀ x ∈ p, 0 ≤ x ∧ x < 60) ∧ (∀ x ∈ l, 0 ≤ x ∧ x < 60) ∧ 1 ≤ e ∧ e ≤ 60 ∧ Q (.int (pairL r e p l)) H
theorem scPaired : FnScope ["rings", "order", "place", "label", "total", "k"] ["rings", "order", "place", "label"] (defScope sPaired) := ⟨rfl, rfl, rfl, by decide +kernel, rfl, by decide +kernel, by decide +kernel⟩
theorem ok_paired (F : FnP K "paired" sPaired f fd) (B : Bl mg) : FnOk P w K mg base CX0 1 f fd ["rings", "order", "place", "label"] (spPaired K) := by
  refine F.ok scPaired (fun vs H Q E h => ?_) (fun cdv A outer s H vs Q E hr h => ?_)
  · obtain ⟨v, u, z, r, p, l, e, rfl, _⟩ := h
    rfl
  · obtain ⟨v, u, z, r, p, l, e, rfl, ⟨a, rfl, ha⟩, ⟨b, rfl, hb⟩, ⟨c, rfl, hc⟩, h14, hp, hl, bp, bl, e1, e2, k⟩ := h
    refine ⟨_, PSs.nox (pss_cons (ps_set (i := 4) scPaired.nd rfl (Or.inl rfl) pe_int)
      (pss_cons (ps_for PassesOwn.never rfl (pi_range1 rfl (B "range" (by decide +kernel)) (pa_cons (pe_callB call_len_seq (by rfl) (B "len" (by decide +kernel)) PySem.boot_len (pa_cons (pv 0) pa_nil)) pa_nil)) (pg_name (i := 5) scPaired.nd rfl (Or.inl rfl))
        (pss_one (ps_aug (i := 4) scPaired.nd rfl (Or.inl rfl) (pe_op op_mul (pe_op op_mul (pe_ix ix_tup (pv 2) (pv 5) (fun _ _ => rfl)) (pe_ix ix_tup (pv 3) (pv 5) (fun _ _ => rfl))) (pe_op op_fdiv (pv 1) (pe_ix ix_tup (pv 0) (pv 5) (fun _ _ => rfl)))) ip_add)))
      (pss_one (ps_ret (pe_op op_mod (pv 4) (pv 1)))))), ?_⟩
    have hn := rr_len r h14
    refine ⟨_, rfl, a, _, rfl, .inr ha, _, rfl, by rw [List.length_map]; omega, by rw [List.length_map]; omega, ?_⟩
    have en : ((r.map V.int).length : Int).toNat = r.length := by rw [List.length_map]; omega
    rw [en]
    refine for_range (lo := 0) (n := r.length) (fun i σ H2 => ∃ u, σ = [some (.ref a), some (.int e), some (.ref b), some (.ref c), some (.int (pairGo r e p l i)), u] ∧ H2 = H) ⟨none, rfl, rfl⟩ ?_ ?_
    · rintro i σ H2 hi ⟨u, rfl, rfl⟩
      have g := rr_get h14 hi
      have e0 : (0 : Int) + (i : Int) = (i : Int) := Int.zero_add _
      have gp : 0 ≤ p.getD i 0 ∧ p.getD i 0 < 60 := by
        rw [List.getD_eq_getElem?_getD, List.getElem?_eq_getElem (by omega : i < p.length)]
        exact bp _ (List.getElem_mem _)
      have gl : 0 ≤ l.getD i 0 ∧ l.getD i 0 < 60 := by
        rw [List.getD_eq_getElem?_getD, List.getElem?_eq_getElem (by omega : i < l.length)]
        exact bl _ (List.getElem_mem _)
      have g1 : 0 ≤ p.getD i 0 * l.getD i 0 := Int.mul_nonneg gp.1 gl.1
      have g2 : p.getD i 0 * l.getD i 0 ≤ 60 * 60 := Int.mul_le_mul (by omega) (by omega) (by omega) (by omega)
      refine ⟨_, rfl, _, rfl, _, rfl, b, _, _, _, rfl, rfl, hb, by rw [e0]; exact atI_nat (getD_of (by omega)), _, rfl, _, rfl, c, _, _, _, rfl, rfl, hc, by rw [e0]; exact atI_nat (getD_of (by omega)), _, _, rfl, rfl, Or.inl ⟨by omega, by omega⟩, _, rfl, _, rfl, _, rfl, a, _, _, _, rfl, rfl, ha, by rw [e0]; exact atI_nat (getD_of hi), _, _, rfl, rfl, ⟨by omega, by omega⟩, _, _, rfl, rfl, Or.inl ⟨by omega, by omega⟩, ?_⟩
      exact ⟨_, _, rfl, rfl, _, rfl, rfl⟩
    · rintro σ H2 ⟨u, rfl, rfl⟩
      exact ⟨_, rfl, _, rfl, _, _, rfl, rfl, by omega, k⟩
/-! ### primes_of -/
def spPrimes : Sp := fun vs H Q _ => ∃ e : Int, vs = [.int e] ∧ 1 ≤ e ∧ e ≤ 60 ∧ ∀ p H', Same H H' → H p = none → H' p = some (.lst ((primesL e).map V.int)) → Q (.ref p) H'
theorem scPrimes : FnScope ["number", "primes", "k", "prime"] ["number"] (defScope sPrimes) := ⟨rfl, rfl, rfl, by decide +kernel, rfl, by decide +kernel, by decide +kernel⟩
theorem primesGo_pos (n : Int) : ∀ i, ∀ p ∈ primesGo n i, 2 ≤ p
  | 0, p, h => absurd h (by simp [primesGo])
  | i + 1, p, h => by
    unfold primesGo at h
    split at h
    · rcases List.mem_append.mp h with z | z
      · exact primesGo_pos n i p z
      · have e := List.mem_singleton.mp z
        omega
    · exact primesGo_pos n i p h
theorem primesGo_len (n : Int) : ∀ i, (primesGo n i).length ≤ i
  | 0 => by simp [primesGo]
  | i + 1 => by
    have h := primesGo_len n i
    unfold primesGo
    split
    · rw [List.length_append]
      simp
      omega
    · omega
theorem neII {a b : Int} : (!decide (V.int a = V.int b)) = (!decide (a = b)) := by
  congr 1
  by_cases h : a = b
  · rw [h]
    simp
  · rw [decide_eq_false h, decide_eq_false (fun z => h (V.int.inj z))]
theorem ok_primes (F : FnP K "primes_of" sPrimes f fd) (B : Bl mg) : FnOk P w K mg base CX0 1 f fd ["number"] spPrimes := by
  refine F.ok scPrimes (fun vs H Q E h => ?_) (fun cdv A outer s H vs Q E hr h => ?_)
  · obtain ⟨e, rfl, _⟩ := h
    rfl
  · obtain ⟨e, rfl, h1, h2, k⟩ := h
    refine ⟨_, PSs.nox (pss_cons (ps_set (i := 1) scPrimes.nd rfl (Or.inl rfl) (pe_lst pa_nil))
      (pss_cons (ps_for PassesOwn.never rfl (pi_range2 rfl (B "range" (by decide +kernel)) (pa_cons pe_int (pa_cons (pe_op op_add (pv 0) pe_int) pa_nil))) (pg_name (i := 2) scPrimes.nd rfl (Or.inr rfl))
        (pss_one (ps_if (PW.pt (pw_and (pt_cmpR op_eq (pe_op op_mod (pv 0) (pv 2)) pe_int (nomark _)) (pw_and1 (pt_val (pe_callB (cr_all rfl) (by rfl) (B "all" (by decide +kernel)) (by decide +kernel) (pa_cons
            (pe_lc (own := [("prime", 3)]) (g := gName 3) (tt := tYes) (te := tOp rNe (tOp rMod (tVar 2) (tVar 3)) (tC (.int 0))) rfl scPrimes.nd (pi_list (pv 1)) (blkOk_by (own := [("prime", 3)]) (N := ["number", "primes", "k", "prime"]) (sc := defScope sPrimes) (by decide +kernel)) (fun _ _ _ _ _ => pg_name (i := 3) scPrimes.nd rfl (Or.inl rfl)) (fun _ _ _ _ _ => pts_nil) (fun _ _ _ _ _ => pe_cmpR op_ne (pe_op op_mod (pv 2) (pv 3)) pe_int (nomark _))) pa_nil))))))
          (pss_one (ps_expr (pe_bm PySem.F.plainAttrs_list PySem.F.slot_list_append PySem.F.type_list_append mt_append (pv 1) (pa_cons (pv 2) pa_nil)))) pss_nil)))
      (pss_one (ps_ret (pv 1))))), ?_⟩
    refine ⟨by decide, fun L hL => ?_⟩
    refine ⟨_, rfl, _, _, rfl, rfl, 2, e + 1, rfl, ⟨by omega, by omega, by omega, by omega⟩, ?_⟩
    refine for_range (lo := 2) (n := (e + 1 - 2).toNat) (fun i σ H2 => ∃ u, σ = [some (.int e), some (.ref L), u, none] ∧ Same H H2 ∧ H2 L = some (.lst ((primesGo e i).map V.int))) ⟨none, rfl, same_upd hL, upd_same⟩ ?_ ?_
    · rintro i σ H2 hi ⟨u, rfl, s2, h2'⟩
      refine ⟨_, rfl, _, rfl, _, _, rfl, rfl, by omega, rfl, _, rfl, ?_⟩
      have pl := primesGo_len e i
      refine ite2 (fun c => ?_) (fun c => ?_)
      · have c1 := eqI c
        refine ⟨_, rfl, L, rfl, ⟨_, SqL.of h2'⟩, fun D hD => ?_⟩
        refine lc_list (K := K) (a := L) (xs := (primesGo e i).map V.int) (fun m H3 => Same H2 H3 ∧ H3 D = some (.lst ((((primesGo e i).take m).map fun p => !decide ((2 + (i : Int)) % p = 0)).map V.bl))) ⟨same_upd hD, upd_same⟩ (fun m H3 _ ⟨s3, _⟩ => SqL.of (s3 _ _ h2')) ?_ ?_
        · rintro m y H3 hm ⟨s3, h3⟩
          obtain ⟨p, rfl, hp⟩ := getI hm
          have hp2 := primesGo_pos e i p (List.mem_of_getElem? hp)
          refine ⟨rfl, _, rfl, _, rfl, _, _, rfl, rfl, by omega, rfl, ?_⟩
          refine ⟨_, h3, sl_lt (by rw [List.length_map, List.length_map]; exact Nat.le_trans (List.length_take_le' _ _) (by omega)), same_at s3 hD, ?_⟩
          rw [upd_same, takeS hp, List.map_append, List.map_append, neII]
          rfl
        · rintro H3 ⟨s3, h3⟩
          rw [List.length_map, List.take_length] at h3
          refine ⟨D, _, rfl, SqL.of h3, _, rfl, ?_⟩
          refine ite2 (fun c2 => ?_) (fun c2 => ?_)
          · refine ⟨_, rfl, Or.inl ⟨rfl, _, SqL.of (s3 _ _ h2')⟩, _, rfl, L, _, _, rfl, rfl, s3 _ _ h2', sl_lt (by rw [List.length_map]; omega), ?_⟩
            refine ⟨_, rfl, same_at (s2.trans s3) hL, ?_⟩
            rw [upd_same]
            have e1 : primesGo e (i + 1) = primesGo e i ++ [2 + (i : Int)] := by
              show (if _ then _ else _) = _
              rw [if_pos]
              rw [Bool.and_eq_true]
              exact ⟨decide_eq_true c1, c2⟩
            rw [e1, List.map_append]
            rfl
          · refine ⟨_, rfl, s2.trans s3, ?_⟩
            have e1 : primesGo e (i + 1) = primesGo e i := by
              show (if _ then _ else _) = _
              rw [if_neg]
              rw [Bool.and_eq_true]
              exact fun z => c2 z.2
            rw [e1]
            exact s3 _ _ h2'
      · have c1 := neI c
        refine iteF ?_
        refine ⟨_, rfl, s2, ?_⟩
        have e1 : primesGo e (i + 1) = primesGo e i := by
          show (if _ then _ else _) = _
          rw [if_neg]
          rw [Bool.and_eq_true]
          exact fun z => c1 (of_decide_eq_true z.1)
        rw [e1]
        exact h2'
    · rintro σ H2 ⟨u, rfl, s2, h2'⟩
      exact ⟨_, rfl, k L H2 s2 hL h2'⟩
end
end K08

namespace K08
open PySem PySem.Spec PyProof.Rows L2
/-- a walk of a list, the turn left open -/
theorem out_list {K : PySem.W.Frag} {a : Addr} {xs : List V} {H0 : Hp} {Qd : Hp → Prop} {body : (Hp → Prop) → V → Hp → Prop} (Pv : Nat → Hp → Prop) (h0 : Pv 0 H0) (hl : ∀ i H, i ≤ xs.length → Pv i H → SqL K H a xs)
    (hs : ∀ i x H, xs[i]? = some x → Pv i H → body (Pv (i + 1)) x H) (hd : ∀ H, Pv xs.length H → Qd H) :
    ∃ W : Nat → Nat → Hp → Prop, (∃ m, W 0 m H0) ∧ ∀ i m H, W i m H →
      ((Itl K a).stop i H ∧ Qd H) ∨ ((Itl K a).go i H ∧ ∃ Nx : Hp → Prop, (∀ H', Nx H' → ∃ m', m' < m ∧ W (i + 1) m' H') ∧ ∀ x H', (Itl K a).yld i H x H' → body Nx x H') := by
  refine ⟨fun i m H => m = xs.length - i ∧ i ≤ xs.length ∧ Pv i H, ⟨xs.length, by simp, Nat.zero_le _, h0⟩, ?_⟩
  rintro i m H ⟨rfl, hi, p⟩
  have q := hl i H hi p
  by_cases hlt : i < xs.length
  · refine .inr ⟨⟨xs, xs[i], q, by simp [hlt]⟩, Pv (i + 1), fun H' p' => ⟨xs.length - (i + 1), by omega, rfl, hlt, p'⟩, fun x H' y => ?_⟩
    obtain ⟨e, y⟩ := y
    subst e
    exact hs i x _ (y xs q) p
  · have e : i = xs.length := by omega
    subst e
    exact .inl ⟨⟨xs, q, Nat.le_refl _⟩, hd H p⟩
/-- a walk of a range, the turn left open -/
theorem out_range {lo : Int} {n : Nat} {H0 : Hp} {Qd : Hp → Prop} {body : (Hp → Prop) → V → Hp → Prop} (Pv : Nat → Hp → Prop) (h0 : Pv 0 H0)
    (hs : ∀ i H, i < n → Pv i H → body (Pv (i + 1)) (.int (lo + (i : Int))) H) (hd : ∀ H, Pv n H → Qd H) :
    ∃ W : Nat → Nat → Hp → Prop, (∃ m, W 0 m H0) ∧ ∀ i m H, W i m H →
      ((Itr lo n).stop i H ∧ Qd H) ∨ ((Itr lo n).go i H ∧ ∃ Nx : Hp → Prop, (∀ H', Nx H' → ∃ m', m' < m ∧ W (i + 1) m' H') ∧ ∀ x H', (Itr lo n).yld i H x H' → body Nx x H') := by
  refine ⟨fun i m H => m = n - i ∧ i ≤ n ∧ Pv i H, ⟨n, by simp, Nat.zero_le _, h0⟩, ?_⟩
  rintro i m H ⟨rfl, hi, p⟩
  by_cases hlt : i < n
  · refine .inr ⟨hlt, Pv (i + 1), fun H' p' => ⟨n - (i + 1), by omega, rfl, hlt, p'⟩, fun x H' y => ?_⟩
    obtain ⟨e, y⟩ := y
    subst e y
    exact hs i _ hlt p
  · have e : i = n := by omega
    subst e
    exact .inl ⟨Nat.le_refl _, hd H p⟩
theorem plStep_len (ps : List (List Int)) (len : Int) : (plStep ps len).length = ps.length * len.toNat := by
  unfold plStep
  induction ps with
  | nil => simp
  | cons p r ih =>
    rw [List.flatMap_cons, List.length_append, ih, List.length_map, rgL_len, List.length_cons, Nat.succ_mul, Nat.add_comm]
theorem plStep_take {ps : List (List Int)} {len : Int} {i : Nat} {p : List Int} (h : ps[i]? = some p) : plStep (ps.take (i + 1)) len = plStep (ps.take i) len ++ (rgL 0 len.toNat).map fun x => p ++ [x] := by
  rw [takeS h]
  unfold plStep
  rw [List.flatMap_append]
  simp
theorem pl_take {r : List Int} {i : Nat} {x : Int} (h : r[i]? = some x) : placesL (r.take (i + 1)) = plStep (placesL (r.take i)) x := by
  rw [takeS h]
  unfold placesL
  rw [List.foldl_append]
  rfl
theorem rr_pl : ∀ r ∈ RR, ∀ i ∈ List.range (r.length + 1), (placesL (r.take i)).length ≤ 60 := by decide +kernel
theorem rr_plen : ∀ r ∈ RR, ∀ i ∈ List.range (r.length + 1), ∀ p ∈ placesL (r.take i), p.length = i := by decide +kernel
theorem rf_snoc {ks : List (Addr × List Int)} {p : Addr} {ns : List Int} : rf (ks ++ [(p, ns)]) = rf ks ++ [V.ref p] := by simp [rf]
theorem map_get {ks : List (Addr × List Int)} {ps : List (List Int)} {i : Nat} {q : Addr × List Int} (h : ks.map (·.2) = ps) (e : ks[i]? = some q) : ps[i]? = some q.2 := by
  rw [← h, List.getElem?_map, e]
  rfl
section
variable {P : Program} {w : World} {K : PySem.W.Frag} {mg : Str → Option Value} {base : Heap} {f : Addr} {fd : FuncData}
def spPlaces (K : PySem.W.Frag) : Sp := fun vs H Q _ => ∃ (v : V) (r : List Int), vs = [v] ∧ TupI K H v r ∧ r ∈ RR ∧ ∀ p H', Same H H' → H p = none → PlL K H' p (placesL r) → Q (.ref p) H'
theorem scPlaces : FnScope ["rings", "places", "length", "place", "item"] ["rings"] (defScope sPlaces) := ⟨rfl, rfl, rfl, by decide +kernel, rfl, by decide +kernel, by decide +kernel⟩
theorem ok_places (F : FnP K "list_places" sPlaces f fd) (B : Bl mg) : FnOk P w K mg base CX0 1 f fd ["rings"] (spPlaces K) := by
  refine F.ok scPlaces (fun vs H Q E h => ?_) (fun cdv A outer s H vs Q E hr h => ?_)
  · obtain ⟨v, r, rfl, _⟩ := h
    rfl
  · obtain ⟨v, r, rfl, ⟨a, rfl, ha⟩, h14, k⟩ := h
    refine ⟨_, PSs.nox (pss_cons (ps_set (i := 1) scPlaces.nd rfl (Or.inl rfl) (pe_lst (pa_cons (pe_tup pa_nil) pa_nil)))
      (pss_cons (ps_for PassesOwn.never rfl (pi_tup (pv 0)) (pg_name (i := 2) scPlaces.nd rfl (Or.inr rfl))
        (pss_one (ps_setLc2 (i := 1) (own := [("place", 3), ("item", 4)]) (vs1 := [4]) (g := gName 3) (tt := tYes) (wi1 := iRng1 (tCons (tVar 2) tNil)) (g1 := gName 4) (tt1 := tYes) (te := tTup (StX.tStar K (tVar 3) (tCons (tVar 4) tNil))) rfl scPlaces.nd rfl rfl (sw_true rfl rfl rfl (by decide +kernel)) (pi_list (pv 1))
          (blkOk_by (own := [("place", 3), ("item", 4)]) (N := ["rings", "places", "length", "place", "item"]) (sc := defScope sPlaces) (by decide +kernel)) (by decide)
          (fun _ _ _ _ _ => pg_name (i := 3) scPlaces.nd rfl (Or.inl rfl)) (fun _ _ _ _ _ => pts_nil)
          (fun _ _ _ _ _ => pi_range1 rfl (B "range" (by decide +kernel)) (pa_cons (pv 2) pa_nil)) (fun _ _ _ _ _ => pg_name (i := 4) scPlaces.nd rfl (Or.inl rfl)) (fun _ _ _ _ _ => pts_nil)
          (fun _ _ _ _ _ => pe_tup (StX.pa_star (pv 3) (pa_cons (pv 4) pa_nil))))))
      (pss_one (ps_ret (pv 1))))), ?_⟩
    refine ⟨by decide, fun t ht => ⟨by show 1 ≤ sizeLine; decide, fun L hL => ?_⟩⟩
    have s0 : Same H (upd (upd H t (.tup [])) L (.lst [.ref t])) := same_new (same_upd ht) hL
    have nL : H L = none := (same_upd (o := HO.tup []) ht).free hL
    refine ⟨_, rfl, a, rfl, ⟨_, s0.tup ha⟩, for_tup (K := K) (a := a) (xs := r.map V.int) (fun i σ H2 => ∃ (l : Addr) (u : Option V), σ = [some (.ref a), some (.ref l), u, none, none] ∧ H l = none ∧ Same H H2 ∧ PlL K H2 l (placesL (r.take i)))
      ⟨L, none, rfl, nL, s0, [(t, [])], upd_same, rfl, fun p hp => by rw [List.mem_singleton.mp hp]; exact (same_upd hL).tup (SqT.of upd_same)⟩ (fun i σ H2 _ ⟨_, _, _, _, s2, _⟩ => s2.tup ha) ?_ ?_⟩
    · rintro i y σ H2 hi ⟨l, u, rfl, nl, s2, ks, hk, em, tk⟩
      obtain ⟨c, rfl, hc⟩ := getI hi
      have hb := rr_pos r h14 c (List.mem_of_getElem? hc)
      have hlt := ltL hc
      have l1 := rr_pl r h14 i (List.mem_range.mpr (by omega))
      have l2 := rr_pl r h14 (i + 1) (List.mem_range.mpr (by omega))
      rw [pl_take hc] at l2
      refine ⟨_, rfl, l, rfl, ⟨_, SqL.of hk⟩, fun D hD => ?_⟩
      have nD : H D = none := s2.free hD
      refine out_list (K := K) (a := l) (xs := rf ks) (fun m H3 => Same H2 H3 ∧ PlL K H3 D (plStep ((placesL (r.take i)).take m) c)) ⟨same_upd hD, [], upd_same, rfl, tl_nil⟩ (fun m H3 _ ⟨s3, _⟩ => SqL.of (s3 _ _ hk)) ?_ ?_
      · rintro m y H3 hm ⟨s3, P3⟩
        obtain ⟨q, rfl, hq⟩ := getR hm
        have hq2 := map_get em hq
        have hq2' : ((placesL (r.take i))[m]? = some q.2) := hq2
        refine ⟨rfl, _, rfl, c, rfl, by omega, by omega, ?_⟩
        refine out_range (lo := 0) (n := c.toNat) (fun j H4 => Same H2 H4 ∧ PlL K H4 D (plStep ((placesL (r.take i)).take m) c ++ (rgL 0 j).map fun x => q.2 ++ [x])) ⟨s3, by simpa [rgL] using P3⟩ ?_ ?_
        · rintro j H4 hj ⟨s4, ks4, h4, e4, t4⟩
          refine ⟨rfl, _, rfl, q.1, _, rfl, .inl (s4.tup (tk q (List.mem_of_getElem? hq))), _, rfl, ?_, fun p hp => ?_⟩
          · have z := rr_len r h14
            have z1 : q.2.length = i := rr_plen r h14 i (List.mem_range.mpr (by omega)) _ (List.mem_of_getElem? hq2)
            rw [List.length_append, List.length_map]
            exact sl_1000 (by simp; omega)
          · have e5 : ks4.length ≤ 3700 := by
              have z := congrArg List.length e4
              rw [List.length_map, List.length_append, plStep_len, List.length_map, rgL_len] at z
              have z2 : ((placesL (r.take i)).take m).length ≤ 60 := Nat.le_trans (List.length_take_le' _ _) l1
              have z3 : ((placesL (r.take i)).take m).length * c.toNat ≤ 60 * 60 := Nat.mul_le_mul z2 (by omega)
              omega
            have h4p : upd H4 p (.tup (q.2.map V.int ++ [.int (0 + (j : Int))])) D = some (.lst (rf ks4)) := by rw [upd_ne (ne_of_none h4 hp)]; exact h4
            refine ⟨_, h4p, sl_lt (by rw [List.length_map]; omega), same_at (same_new s4 hp) hD, ks4 ++ [(p, q.2 ++ [0 + (j : Int)])], ?_, ?_, ?_⟩
            · rw [upd_same, rf_snoc]
            · rw [List.map_append, e4, rgL_succ, List.map_append, List.append_assoc]
              rfl
            · have sp : Same H4 (upd H4 p (.tup (q.2.map V.int ++ [.int (0 + (j : Int))]))) := same_upd hp
              have tl1 : TL K (upd H4 p (.tup (q.2.map V.int ++ [.int (0 + (j : Int))]))) (ks4 ++ [(p, q.2 ++ [0 + (j : Int)])]) := tl_snoc (sp.tl t4) (SqT.of (by rw [upd_same, List.map_append]; rfl))
              exact tl_at tl1 h4p
        · rintro H4 ⟨s4, P4⟩
          refine ⟨s4, ?_⟩
          rw [plStep_take hq2]
          exact P4
      · rintro H3 ⟨s3, P3⟩
        refine ⟨D, _, rfl, nD, s2.trans s3, ?_⟩
        have e6 : (rf ks).length = (placesL (r.take i)).length := by rw [← em, List.length_map, List.length_map]
        rw [e6, List.take_length] at P3
        rw [pl_take hc]
        exact P3
    · rintro σ H2 ⟨l, u, rfl, nl, s2, P2⟩
      rw [List.length_map, List.take_length] at P2
      exact ⟨_, rfl, k l H2 s2 nl P2⟩
end
end K08

namespace K08
open PySem PySem.Spec PyProof.Rows L2
section
variable {P : Program} {w : World} {K : PySem.W.Frag} {mg : Str → Option Value} {base : Heap} {f : Addr} {fd : FuncData}
/-! ### _stretched -/
def spStr (K : PySem.W.Frag) : Sp := fun vs H Q _ => ∃ (a : Addr) (xs : List Int) (b : Nat), vs = [.ref a, .int (b : Int)] ∧ SqL K H a (xs.map V.int) ∧ 1 ≤ xs.length ∧ xs.length ≤ 100 ∧ 1 ≤ b ∧ b ≤ 100 ∧ ∀ p H', Same H H' → H p = none → H' p = some (.lst ((strL xs b).map V.int)) → Q (.ref p) H'
theorem scStr : FnScope ["items", "by", "stretched", "k", "item"] ["items", "by"] (defScope sStr) := ⟨rfl, rfl, rfl, by decide +kernel, rfl, by decide +kernel, by decide +kernel⟩
theorem strN_len (xs : List Int) (b : Nat) : ∀ i, (strN xs b i).length = (xs.length - 1) * b + 1
  | 0 => by simp [strN]
  | i + 1 => by
    unfold strN
    rw [List.length_set]
    exact strN_len xs b i
theorem ixN_nat {n j : Nat} (h : j < n) : ixN n (j : Int) = some j := by
  unfold ixN
  rw [if_pos (by omega), if_pos (by omega)]
  simp
theorem rep_flat (n : Nat) (x : V) : (List.replicate n [x]).flatten = List.replicate n x := by
  induction n with
  | zero => rfl
  | succ n ih => rw [List.replicate_succ, List.flatten_cons, ih, List.replicate_succ]; rfl
theorem ok_str (F : FnP K "_stretched" sStr f fd) (B : Bl mg) : FnOk P w K mg base CX0 1 f fd ["items", "by"] (spStr K) := by
  refine F.ok scStr (fun vs H Q E h => ?_) (fun cdv A outer s H vs Q E hr h => ?_)
  · obtain ⟨a, xs, b, rfl, _⟩ := h
    rfl
  · obtain ⟨a, xs, b, rfl, hS, l1, l2, b1, b2, k⟩ := h
    refine ⟨_, PSs.nox (pss_cons (ps_set (i := 2) scStr.nd rfl (Or.inl rfl) (pe_op op_rep (pe_lst (pa_cons pe_int pa_nil)) (pe_op op_add (pe_op op_mul (pe_op op_sub (pe_callB call_len_seq (by rfl) (B "len" (by decide +kernel)) PySem.boot_len (pa_cons (pv 0) pa_nil)) pe_int) (pv 1)) pe_int)))
      (pss_cons (ps_for PassesOwn.never rfl (pi_enum (by rfl) (B "enumerate" (by decide +kernel)) (pa_cons (pv 0) pa_nil)) (pg_tup rfl (pgs_cons (pg_name (i := 3) scStr.nd rfl (Or.inl rfl)) (pgs_cons (pg_name (i := 4) scStr.nd rfl (Or.inl rfl)) pgs_nil)))
        (pss_one (ps_asg (pv 4) (pg_sub (pv 2) (pe_op op_mul (pv 3) (pv 1)) set_list))))
      (pss_one (ps_ret (pv 2))))), ?_⟩
    refine ⟨by show 1 ≤ sizeLine; decide, fun z hz => ?_⟩
    have sz : Same H (upd H z (.lst [.int 0])) := same_upd hz
    have em : ((((xs.map V.int).length : Int) - 1) * (b : Int) + 1) = (((xs.length - 1) * b + 1 : Nat) : Int) := by
      rw [List.length_map]
      have e1 : ((xs.length : Int) - 1) = ((xs.length - 1 : Nat) : Int) := by omega
      rw [e1]
      push_cast
      rfl
    have hb : (xs.length - 1) * b ≤ 99 * 100 := Nat.mul_le_mul (by omega) b2
    refine ⟨_, rfl, a, _, rfl, .inl (sz.seq hS), _, _, rfl, rfl, _, rfl, _, _, rfl, rfl, Or.inl ⟨by rw [List.length_map]; omega, by rw [List.length_map]; omega⟩, _, _, rfl, rfl, z, _, _, rfl, rfl, upd_same, ?_⟩
    rw [em]
    refine ⟨by omega, by omega, ?_, fun D hD => ?_⟩
    · rw [Int.toNat_natCast]
      exact sl_1000 (by simp; omega)
    rw [Int.toNat_natCast, rep_flat]
    have nD : H D = none := sz.free hD
    have s1 : Same H (upd (upd H z (.lst [.int 0])) D (.lst (List.replicate ((xs.length - 1) * b + 1) (V.int 0)))) := same_new sz hD
    refine ⟨_, rfl, a, xs.map V.int, rfl, s1.seq hS, ?_⟩
    refine for_it (walk_enum (K := K) (a := a) (xs := xs.map V.int)) (fun i σ H2 => ∃ u v, σ = [some (.ref a), some (.int (b : Int)), some (.ref D), u, v] ∧ Same H H2 ∧ H2 D = some (.lst ((strN xs b i).map V.int))) ⟨none, none, rfl, s1, ?_⟩ (fun i σ H2 _ ⟨_, _, _, s2, _⟩ => s2.seq hS) ?_ ?_
    · rw [upd_same]
      simp [strN]
    · rintro i x σ H2 H3 hi ⟨u, v, rfl, s2, h2⟩ ⟨T, c, y, rfl, hT, rfl, ec, ey⟩
      obtain ⟨x, rfl, hx⟩ := getI ey
      obtain rfl := Option.some.inj ec
      rw [List.length_map] at hi
      have h3 : upd H2 T (.tup [.int (i : Int), .int x]) D = some (.lst ((strN xs b i).map V.int)) := by rw [upd_ne (ne_of_none h2 hT)]; exact h2
      have s3 : Same H (upd H2 T (.tup [.int (i : Int), .int x])) := same_new s2 hT
      refine ⟨T, _, rfl, SqT.of upd_same, rfl, _, _, rfl, _, _, rfl, rfl, ?_⟩
      have hib : i * b ≤ (xs.length - 1) * b := Nat.mul_le_mul (by omega) (Nat.le_refl _)
      have ee : (i : Int) * (b : Int) = ((i * b : Nat) : Int) := by push_cast; rfl
      refine ⟨_, rfl, _, rfl, _, rfl, _, rfl, _, _, rfl, rfl, Or.inl ⟨by omega, by omega⟩, D, _, _, i * b, rfl, rfl, h3, ?_, _, _, rfl, same_at s3 nD, ?_⟩
      · rw [ee, List.length_map, strN_len]
        exact ixN_nat (by omega)
      · rw [upd_same]
        have e4 : strN xs b (i + 1) = (strN xs b i).set (i * b) (xs.getD i 0) := rfl
        have e5 : xs.getD i 0 = x := by rw [List.getD_eq_getElem?_getD, hx]; rfl
        rw [e4, e5, List.map_set]
    · rintro σ H2 ⟨u, v, rfl, s2, h2⟩
      rw [List.length_map] at h2
      exact ⟨_, rfl, k D H2 s2 nD h2⟩
end
end K08

namespace K08
open PySem PySem.Spec PyProof.Rows L2
section
variable {X : Cx}
def rGetN (K : PySem.W.Frag) : V → V → Hp → VK → Prop := fun x y H Q => ∃ (p : Addr) (xs : List V) (j : Nat) (v : V), x = .ref p ∧ y = .int (j : Int) ∧ SqL K H p xs ∧ xs[j]? = some v ∧ Q v H
theorem get_list : PGet X (rGetN X.K) := by
  intro pins s σ H o i ov iv Q I r1 r2 h
  obtain ⟨p, xs, j, v, rfl, rfl, hq, he, q⟩ := h
  cases r1
  obtain ⟨t, rfl⟩ := r2
  obtain ⟨its, r, pl, hz⟩ := I.list hq
  obtain ⟨w, ew, rw'⟩ := r.get he
  have hj := ltL he
  have hn := line63
  exact wpAny_getItem_list pl.isList (by omega) (by omega) (by rw [Int.toNat_natCast]; simpa using ew) ⟨v, H, I, rw', q⟩
end
theorem subN_len (h : Int) (dv : List Int) (a : Nat) (r : List Int) : ∀ k, (subN h dv a r k).length = r.length
  | 0 => rfl
  | k + 1 => by
    unfold subN
    rw [List.length_set]
    exact subN_len h dv a r k
section
variable {P : Program} {w : World} {K : PySem.W.Frag} {mg : Str → Option Value} {base : Heap} {f : Addr} {fd : FuncData}
/-- a list or a tuple of ints -/
def SqI (K : PySem.W.Frag) (H : Hp) (a : Addr) (ns : List Int) : Prop := SqL K H a (ns.map V.int) ∨ SqT K H a (ns.map V.int)
theorem _root_.L2.Same.sqi {K : PySem.W.Frag} {H H' : Hp} {a : Addr} {ns : List Int} (e : Same H H') (h : SqI K H a ns) : SqI K H' a ns := h.imp (fun z => e.seq z) (fun z => e.tup z)
def spDiv (K : PySem.W.Frag) : Sp := fun vs H Q _ => ∃ (a b : Addr) (xs dv : List Int), vs = [.ref a, .ref b] ∧ SqL K H a (xs.map V.int) ∧ SqI K H b dv ∧ 1 ≤ dv.length ∧ dv.length ≤ 1000 ∧ xs.length ≤ 10000 ∧ (∀ d ∈ dv, -1000 ≤ d ∧ d ≤ 1000) ∧
  ∀ t q r H', Same H H' → H t = none → H q = none → H r = none → H' t = some (.tup [.ref q, .ref r]) → H' q = some (.lst ((divL xs dv).1.map V.int)) → H' r = some (.lst ((divL xs dv).2.map V.int)) → Q (.ref t) H'
theorem scDiv : FnScope ["items", "divisor", "degree", "rest", "quotient", "highest", "at", "k"] ["items", "divisor"] (defScope sDiv) := ⟨rfl, rfl, rfl, by decide +kernel, rfl, by decide +kernel, by decide +kernel⟩
theorem lastD {l : List Int} (h : 0 < l.length) : (l.map V.int)[(l.map V.int).length - 1]? = some (V.int (l.getLastD 0)) := by
  refine ofI ?_
  rw [List.length_map, List.getElem?_eq_getElem (by omega)]
  congr 1
  cases l with
  | nil => simp at h
  | cons x r => simp [List.getLastD, List.getLast_eq_getElem]
theorem ok_div (F : FnP K "_divided" sDiv f fd) (B : Bl mg) : FnOk P w K mg base CX0 1 f fd ["items", "divisor"] (spDiv K) := by
  refine F.ok scDiv (fun vs H Q E h => ?_) (fun cdv A outer s H vs Q E hr h => ?_)
  · obtain ⟨a, b, xs, dv, rfl, _⟩ := h
    rfl
  · obtain ⟨a, b, xs, dv, rfl, hS, hD, d1, d2, x1, db, k⟩ := h
    refine ⟨_, PSs.nox (pss_cons (ps_set (i := 2) scDiv.nd rfl (Or.inl rfl) (pe_op op_sub (pe_callB call_len_seq (by rfl) (B "len" (by decide +kernel)) PySem.boot_len (pa_cons (pv 1) pa_nil)) pe_int))
      (pss_cons (ps_set (i := 3) scDiv.nd rfl (Or.inl rfl) (pe_callTy call_list_of (by rfl) (B "list" (by decide +kernel)) (by decide +kernel) (pa_cons (pv 0) pa_nil)))
      (pss_cons (ps_set (i := 4) scDiv.nd rfl (Or.inl rfl) (pe_lst pa_nil))
      (pss_cons (ps_while PassesOwn.never (pt_cmpR op_gt (pe_callB call_len_seq (by rfl) (B "len" (by decide +kernel)) PySem.boot_len (pa_cons (pv 3) pa_nil)) (pv 2) (nomark _))
        (pss_cons (ps_set (i := 5) scDiv.nd rfl (Or.inl rfl) (pe_bm0 PySem.F.plainAttrs_list PySem.F.slot_list_pop PySem.F.type_list_pop mt_pop (pv 3)))
        (pss_cons (ps_expr (pe_bm PySem.F.plainAttrs_list PySem.F.slot_list_append PySem.F.type_list_append mt_append (pv 4) (pa_cons (pv 5) pa_nil)))
        (pss_cons (ps_set (i := 6) scDiv.nd rfl (Or.inl rfl) (pe_op op_sub (pe_callB call_len_seq (by rfl) (B "len" (by decide +kernel)) PySem.boot_len (pa_cons (pv 3) pa_nil)) (pv 2)))
        (pss_one (ps_for PassesOwn.never rfl (pi_range1 rfl (B "range" (by decide +kernel)) (pa_cons (pv 2) pa_nil)) (pg_name (i := 7) scDiv.nd rfl (Or.inl rfl))
          (pss_one (ps_augS (pv 3) (pe_op op_add (pv 6) (pv 7)) get_list (pe_op op_mul (pv 5) (pe_ix (IxR.or ix_list ix_tup) (pv 1) (pv 7) (fun _ _ => rfl))) ip_sub set_list))))))))
      (pss_one (ps_ret (pe_tup (pa_cons (pe_revL (pv 4)) (pa_cons (pv 3) pa_nil))))))))), ?_⟩
    have hbL : ∀ H2 : Hp, Same H H2 → SqL K H2 b (dv.map V.int) ∨ SqT K H2 b (dv.map V.int) := fun H2 e => e.sqi hD
    refine ⟨_, rfl, b, _, rfl, hbL H (Same.refl _), _, _, rfl, rfl, _, rfl, a, _, rfl, .inl hS, fun R hR => ⟨by decide, fun L hL => ?_⟩⟩
    have eg : ((dv.map V.int).length : Int) - 1 = ((dv.length - 1 : Nat) : Int) := by rw [List.length_map]; omega
    have sR : Same H (upd H R (.lst (xs.map V.int))) := same_upd hR
    have nL : H L = none := sR.free hL
    have hRL : R ≠ L := ne_of_none upd_same hL
    refine while_by (fun σ H2 => ∃ (r q : List Int) (u5 u6 u7 : Option V), σ = [some (.ref a), some (.ref b), some (.int (((dv.map V.int).length : Int) - 1)), some (.ref R), some (.ref L), u5, u6, u7] ∧ Same H H2 ∧ H2 R = some (.lst (r.map V.int)) ∧ H2 L = some (.lst (q.map V.int)) ∧ r.length + q.length = xs.length ∧
      divGo (dv.length - 1) dv (r.length - (dv.length - 1)) r q = divGo (dv.length - 1) dv (xs.length - (dv.length - 1)) xs []) (fun σ H2 => match H2 R with | some (.lst l) => l.length | _ => 0)
      ⟨xs, [], none, none, none, rfl, same_new sR hL, by rw [upd_ne hRL]; exact upd_same, upd_same, by simp, rfl⟩ ?_ ?_
    · rintro σ H2 ⟨r, q, u5, u6, u7, rfl, s2, h1, h2, hl, hg⟩
      refine ⟨_, rfl, R, _, rfl, .inl (SqL.of h1), _, rfl, _, _, rfl, rfl, _, rfl, ?_⟩
      refine ite2 (fun c => ?_) (fun c => ?_)
      · have c1 : ((dv.map V.int).length : Int) - 1 < ((r.map V.int).length : Int) := of_decide_eq_true c
        rw [eg, List.length_map] at c1
        have c2 : dv.length - 1 < r.length := by omega
        -- highest = rest.pop()
        refine ⟨_, rfl, Or.inl ⟨rfl, _, SqL.of h1⟩, R, _, _, rfl, rfl, h1, lastD (by omega), ?_⟩
        rw [← List.map_dropLast]
        generalize hH3 : upd H2 R (.lst (r.dropLast.map V.int)) = H3
        have p1 : H3 R = some (.lst (r.dropLast.map V.int)) := by rw [← hH3, upd_same]
        have p2 : H3 L = some (.lst (q.map V.int)) := by rw [← hH3, upd_ne hRL.symm]; exact h2
        have s3 : Same H H3 := by rw [← hH3]; exact same_at s2 hR
        -- quotient.append(highest)
        refine ⟨_, rfl, Or.inl ⟨rfl, _, SqL.of p2⟩, _, rfl, L, _, _, rfl, rfl, p2, sl_lt (by rw [List.length_map]; omega), ?_⟩
        generalize hH4 : upd H3 L (.lst (q.map V.int ++ [.int (r.getLastD 0)])) = H4
        have p3 : H4 R = some (.lst (r.dropLast.map V.int)) := by rw [← hH4, upd_ne hRL]; exact p1
        have p4 : H4 L = some (.lst ((q ++ [r.getLastD 0]).map V.int)) := by rw [← hH4, upd_same, List.map_append]; rfl
        have s4 : Same H H4 := by rw [← hH4]; exact same_at s3 nL
        have el : r.dropLast.length = r.length - 1 := List.length_dropLast
        refine ⟨_, rfl, R, _, rfl, .inl (SqL.of p3), _, rfl, _, _, rfl, rfl, ?_⟩
        have ea : ((r.dropLast.map V.int).length : Int) - (((dv.map V.int).length : Int) - 1) = ((r.length - 1 - (dv.length - 1) : Nat) : Int) := by
          rw [eg, List.length_map, el]
          omega
        refine ⟨_, rfl, _, rfl, by omega, by omega, ?_⟩
        rw [show (((dv.map V.int).length : Int) - 1).toNat = dv.length - 1 by rw [eg, Int.toNat_natCast]]
        refine for_range (lo := 0) (n := dv.length - 1) (fun i σ H5 => ∃ u, σ = [some (.ref a), some (.ref b), some (.int (((dv.map V.int).length : Int) - 1)), some (.ref R), some (.ref L), some (.int (r.getLastD 0)), some (.int (((r.dropLast.map V.int).length : Int) - (((dv.map V.int).length : Int) - 1))), u] ∧ Same H H5 ∧ H5 R = some (.lst ((subN (r.getLastD 0) dv (r.length - 1 - (dv.length - 1)) r.dropLast i).map V.int)) ∧ H5 L = some (.lst ((q ++ [r.getLastD 0]).map V.int)))
          ⟨u7, rfl, s4, p3, p4⟩ ?_ ?_
        · rintro i σ H5 hi ⟨u, rfl, s5, p5, p6⟩
          have e0 : (0 : Int) + (i : Int) = (i : Int) := Int.zero_add _
          have e1 : ((r.dropLast.map V.int).length : Int) - (((dv.map V.int).length : Int) - 1) + ((0 : Int) + (i : Int)) = ((r.length - 1 - (dv.length - 1) + i : Nat) : Int) := by
            rw [ea]
            omega
          have sl := subN_len (r.getLastD 0) dv (r.length - 1 - (dv.length - 1)) r.dropLast i
          have gd : -1000 ≤ dv.getD i 0 ∧ dv.getD i 0 ≤ 1000 := by
            rw [List.getD_eq_getElem?_getD, List.getElem?_eq_getElem (by omega : i < dv.length)]
            exact db _ (List.getElem_mem _)
          have gx : atI (dv.map V.int) ((0 : Int) + (i : Int)) = some (V.int (dv.getD i 0)) := by rw [e0]; exact atI_nat (getD_of (by omega))
          refine ⟨_, rfl, _, rfl, _, rfl, _, _, rfl, rfl, R, _, r.length - 1 - (dv.length - 1) + i, _, rfl, congrArg V.int e1, SqL.of p5, getD_of (by omega), _, rfl, _, rfl, _, rfl, ?_⟩
          have fin : rI CMul (fun i j => .int (i * j)) (.int (r.getLastD 0)) (.int (dv.getD i 0)) H5 (fun y H4 => ipI (fun i j => i - j) (.int ((subN (r.getLastD 0) dv (r.length - 1 - (dv.length - 1)) r.dropLast i).getD (r.length - 1 - (dv.length - 1) + i) 0)) y H4 (fun z H5 => rSetL (.ref R) (.int (((r.dropLast.map V.int).length : Int) - (((dv.map V.int).length : Int) - 1) + ((0 : Int) + (i : Int)))) z H5 fun H6 => ∃ u, [some (V.ref a), some (.ref b), some (.int (((dv.map V.int).length : Int) - 1)), some (.ref R), some (.ref L), some (.int (r.getLastD 0)), some (.int (((r.dropLast.map V.int).length : Int) - (((dv.map V.int).length : Int) - 1))), some (.int (0 + (i : Int)))] = [some (.ref a), some (.ref b), some (.int (((dv.map V.int).length : Int) - 1)), some (.ref R), some (.ref L), some (.int (r.getLastD 0)), some (.int (((r.dropLast.map V.int).length : Int) - (((dv.map V.int).length : Int) - 1))), u] ∧ Same H H6 ∧ H6 R = some (.lst ((subN (r.getLastD 0) dv (r.length - 1 - (dv.length - 1)) r.dropLast (i + 1)).map V.int)) ∧ H6 L = some (.lst ((q ++ [r.getLastD 0]).map V.int)))) := by
            refine ⟨_, _, rfl, rfl, Or.inr ⟨by omega, by omega⟩, _, _, rfl, rfl, R, _, _, r.length - 1 - (dv.length - 1) + i, rfl, rfl, p5, ?_, _, rfl, same_at s5 hR, ?_, ?_⟩
            · rw [e1, List.length_map]
              exact ixN_nat (by omega)
            · rw [upd_same, ← List.map_set]
              rfl
            · rw [upd_ne hRL.symm]
              exact p6
          rcases hbL H5 s5 with z | z
          · exact .inl ⟨b, _, _, _, rfl, rfl, z, gx, fin⟩
          · exact .inr ⟨b, _, _, _, rfl, rfl, z, gx, fin⟩
        · rintro σ H5 ⟨u, rfl, s5, p5, p6⟩
          have dl : (divStep (dv.length - 1) dv r).length = r.length - 1 := by
            show (subN _ _ _ _ _).length = _
            rw [subN_len, el]
          refine ⟨⟨divStep (dv.length - 1) dv r, q ++ [r.getLastD 0], _, _, _, rfl, s5, p5, p6, ?_, ?_⟩, ?_⟩
          · rw [dl, List.length_append]
            simp
            omega
          · rw [dl, ← hg]
            have e7 : r.length - (dv.length - 1) = (r.length - 1 - (dv.length - 1)) + 1 := by omega
            rw [e7]
            rfl
          · rw [p5, h1]
            show ((subN _ _ _ _ _).map V.int).length < (r.map V.int).length
            rw [List.length_map, List.length_map, subN_len, el]
            omega
      · have c1 : ¬ ((dv.map V.int).length : Int) - 1 < ((r.map V.int).length : Int) := fun z => c (decide_eq_true z)
        rw [eg, List.length_map] at c1
        have e8 : r.length - (dv.length - 1) = 0 := by omega
        rw [e8] at hg
        have g1 : divL xs dv = (q.reverse, r) := by
          show ((divGo _ _ _ _ _).1.reverse, (divGo _ _ _ _ _).2) = _
          rw [← hg]
          rfl
        refine ⟨_, rfl, L, _, rfl, SqL.of h2, fun p hp => ⟨_, rfl, by show 2 ≤ sizeLine; decide, fun t ht => ?_⟩⟩
        have s9 : Same H2 (upd H2 p (.lst (q.map V.int).reverse)) := same_upd hp
        have n1 : H p = none := s2.free hp
        have n2 : H t = none := (s2.trans s9).free ht
        refine k t p R _ ((s2.trans s9).trans (same_upd ht)) n2 n1 hR upd_same ?_ ?_
        · rw [upd_ne (ne_of_none (upd_same (H := H2)) ht), upd_same, g1, List.map_reverse]
        · rw [upd_ne (ne_of_none (s9 _ _ h1) ht), upd_ne (ne_of_none h1 hp), g1]
          exact h1
    · intro σ H2 Q1 Q2 hq hc
      obtain ⟨v, e1, p, ys, e2, e3, v2, e4, i, j, e5, e6, kk, e7, e8⟩ := hc
      exact ⟨v, e1, p, ys, e2, e3, v2, e4, i, j, e5, e6, kk, e7, hq _ _ e8⟩
end
end K08

namespace K08
open PySem PySem.Spec PyProof.Rows L2
def okS (s : List Int × Int) : Bool := decide (2 ≤ s.1.length) && (decide (s.1.length ≤ 61) && (s.1.all (fun d => decide (-1000 ≤ d) && decide (d ≤ 1000)) && (decide (1 ≤ s.2) && decide (s.2 ≤ 60))))
def polyS (e : Int) (i : Nat) : List Int × Int := ((primesL e).take i).foldl polyStep ([-1, 1], e)
theorem er_in : ∀ r ∈ RR, ordL r ∈ ER := by decide +kernel
theorem er_bd : ∀ e ∈ ER, 2 ≤ e ∧ e ≤ 60 := by decide +kernel
theorem er_primes : ∀ e ∈ ER, ∀ p ∈ primesL e, 2 ≤ p ∧ p ≤ 60 := by decide +kernel
theorem er_ok : ∀ e ∈ ER, ∀ i ∈ List.range ((primesL e).length + 1), okS (polyS e i) = true := by decide +kernel
theorem polyS_succ {e : Int} {i : Nat} {p : Int} (h : (primesL e)[i]? = some p) : polyS e (i + 1) = polyStep (polyS e i) p := by
  unfold polyS
  rw [takeS h, List.foldl_append]
  rfl
theorem okS_of {s : List Int × Int} (h : okS s = true) : 2 ≤ s.1.length ∧ s.1.length ≤ 61 ∧ (∀ d ∈ s.1, -1000 ≤ d ∧ d ≤ 1000) ∧ 1 ≤ s.2 ∧ s.2 ≤ 60 := by
  unfold okS at h
  simp only [Bool.and_eq_true, decide_eq_true_eq, List.all_eq_true] at h
  exact ⟨h.1, h.2.1, h.2.2.1, h.2.2.2.1, h.2.2.2.2⟩
section
variable {P : Program} {w : World} {K : PySem.W.Frag} {mg : Str → Option Value} {base : Heap} {f fP fD fS : Addr} {fd fdP fdD fdS : FuncData}
def spPoly (K : PySem.W.Frag) : Sp := fun vs H Q _ => ∃ e : Int, vs = [.int e] ∧ e ∈ ER ∧ ∀ t H', Same H H' → H t = none → H' t = some (.tup ((polyL e).map V.int)) → Q (.ref t) H'
theorem scPoly : FnScope ["order", "polynomial", "left", "prime", "_"] ["order"] (defScope sPoly) := ⟨rfl, rfl, rfl, by decide +kernel, rfl, by decide +kernel, by decide +kernel⟩
theorem ok_poly (F : FnP K "polynomial_of" sPoly f fd) (B : Bl mg) (FP : FnP K "primes_of" sPrimes fP fdP) (gP : mg "primes_of" = some (.ref fP)) (FD : FnP K "_divided" sDiv fD fdD) (gD : mg "_divided" = some (.ref fD)) (FS : FnP K "_stretched" sStr fS fdS) (gS : mg "_stretched" = some (.ref fS)) :
    FnOk P w K mg base CX0 2 f fd ["order"] (spPoly K) := by
  have GP : FnOk P w K mg base CX0 1 fP fdP ["number"] spPrimes := ok_primes FP B
  have GD : FnOk P w K mg base CX0 1 fD fdD ["items", "divisor"] (spDiv K) := ok_div FD B
  have GS : FnOk P w K mg base CX0 1 fS fdS ["items", "by"] (spStr K) := ok_str FS B
  have bP : Binds K fdP ["number"] [] := FP.bindsN fun _ _ _ _ _ _ us hl => match us, hl with | [_], _ => rfl
  have bD : Binds K fdD ["items", "divisor"] [] := FD.bindsN fun _ _ _ _ _ _ us hl => match us, hl with | [_, _], _ => rfl
  have bS : Binds K fdS ["items", "by"] [] := FS.bindsN fun _ _ _ _ _ _ us hl => match us, hl with | [_, _], _ => rfl
  refine F.ok scPoly (fun vs H Q E h => ?_) (fun cdv A outer s H vs Q E hr h => ?_)
  · obtain ⟨e, rfl, _⟩ := h
    rfl
  · obtain ⟨e, rfl, he, k⟩ := h
    have eb := er_bd e he
    refine ⟨_, PSs.nox (pss_cons (ps_set (i := 1) scPoly.nd rfl (Or.inl rfl) (pe_lst (pa_cons (pe_un un_neg pe_int) (pa_cons pe_int pa_nil))))
      (pss_cons (ps_set (i := 2) scPoly.nd rfl (Or.inl rfl) (pv 0))
      (pss_cons (ps_for PassesOwn.never rfl (pi_list (pe_call GP hr rfl gP FP.kp bP .nil pass0 (pa_cons (pv 0) pa_nil))) (pg_name (i := 3) scPoly.nd rfl (Or.inl rfl))
        (pss_cons (ps_asg (pe_call GD hr rfl gD FD.kp bD .nil pass0 (pa_cons (pe_call GS hr rfl gS FS.kp bS .nil pass0 (pa_cons (pv 1) (pa_cons (pv 3) pa_nil))) (pa_cons (pv 1) pa_nil))) (pg_tup rfl (pgs_cons (pg_name (i := 1) scPoly.nd rfl (Or.inl rfl)) (pgs_cons (pg_name (i := 4) scPoly.nd rfl (Or.inl rfl)) pgs_nil))))
        (pss_one (ps_set (i := 2) scPoly.nd rfl (Or.inl rfl) (pe_op op_fdiv (pv 2) (pv 3))))))
      (pss_one (ps_ret (pe_callTy call_tuple_of (by rfl) (B "tuple" (by decide +kernel)) (by decide +kernel) (pa_cons (pe_call GS hr rfl gS FS.kp bS .nil pass0 (pa_cons (pv 1) (pa_cons (pv 2) pa_nil))) pa_nil))))))), ?_⟩
    refine ⟨_, rfl, by show 2 ≤ sizeLine; decide, fun L hL => ?_⟩
    have s0 : Same H (upd H L (.lst [.int (-1), .int 1])) := same_upd hL
    refine ⟨_, rfl, _, rfl, e, rfl, by omega, by omega, fun p H1 s1 np h1 => ?_⟩
    refine ⟨p, rfl, ⟨_, SqL.of h1⟩, for_list (K := K) (a := p) (xs := (primesL e).map V.int) (fun i σ H2 => ∃ (l : Addr) (u v : Option V), σ = [some (.int e), some (.ref l), some (.int (polyS e i).2), u, v] ∧ Same H H2 ∧ H2 p = some (.lst ((primesL e).map V.int)) ∧ H2 l = some (.lst ((polyS e i).1.map V.int)))
      ⟨L, none, none, rfl, s0.trans s1, h1, s1 _ _ upd_same⟩ (fun i σ H2 _ ⟨_, _, _, _, _, z, _⟩ => SqL.of z) ?_ ?_⟩
    · rintro i y σ H2 hi ⟨l, u, v, rfl, s2, h2, h3⟩
      obtain ⟨c, rfl, hc⟩ := getI hi
      have cb := er_primes e he c (List.mem_of_getElem? hc)
      have hil := ltL hc
      obtain ⟨o1, o2, o3, o4, o5⟩ := okS_of (er_ok e he i (List.mem_range.mpr (by omega)))
      obtain ⟨n, rfl⟩ := Int.eq_ofNat_of_zero_le (show 0 ≤ c by omega)
      refine ⟨_, rfl, _, rfl, l, _, n, rfl, SqL.of h3, by omega, by omega, by omega, by omega, fun q H3 s3 nq h4 => ?_⟩
      have hlen : (strL (polyS e i).1 n).length ≤ 10000 := by
        unfold strL
        rw [strN_len]
        have z : ((polyS e i).1.length - 1) * n ≤ 60 * 60 := Nat.mul_le_mul (by omega) (by omega)
        omega
      refine ⟨_, rfl, q, l, _, _, rfl, SqL.of h4, .inl (SqL.of (s3 _ _ h3)), by omega, by omega, hlen, o3, fun t a b H4 s4 nt na nb h5 h6 h7 => ?_⟩
      refine ⟨t, _, rfl, SqT.of h5, rfl, _, _, rfl, _, _, rfl, rfl, ?_⟩
      refine ⟨_, rfl, _, rfl, _, _, rfl, rfl, ⟨by omega, by omega⟩, ?_⟩
      refine ⟨a, some (.int (n : Int)), some (.ref b), ?_, (s2.trans s3).trans s4, s4 _ _ (s3 _ _ h2), ?_⟩
      · rw [polyS_succ hc]
        rfl
      · rw [polyS_succ hc]
        exact h6
    · rintro σ H2 ⟨l, u, v, rfl, s2, h2, h3⟩
      rw [List.length_map] at h3
      obtain ⟨o1, o2, o3, o4, o5⟩ := okS_of (er_ok e he (primesL e).length (List.mem_range.mpr (by omega)))
      obtain ⟨n, hn⟩ := Int.eq_ofNat_of_zero_le (show 0 ≤ (polyS e (primesL e).length).2 by omega)
      have hn' : (polyS e ((primesL e).map V.int).length).2 = (n : Int) := by rw [List.length_map]; exact hn
      refine ⟨_, rfl, _, rfl, l, (polyS e (primesL e).length).1, n, ?_, SqL.of h3, by omega, by omega, by omega, by omega, fun q H3 s3 nq h4 => ?_⟩
      · rw [hn']
        rfl
      · refine ⟨q, _, rfl, .inl ⟨SqL.of h4, fun t ht => ?_⟩⟩
        have n1 : H t = none := (s2.trans s3).free ht
        refine k t _ ((s2.trans s3).trans (same_upd ht)) n1 ?_
        rw [upd_same]
        have e9 : polyS e (primesL e).length = (primesL e).foldl polyStep ([-1, 1], e) := by
          unfold polyS
          rw [List.take_length]
        have e10 : polyL e = strL (polyS e (primesL e).length).1 n := by
          show strL ((primesL e).foldl polyStep ([-1, 1], e)).1 ((primesL e).foldl polyStep ([-1, 1], e)).2.toNat = _
          rw [← e9, hn]
          rfl
        rw [e10]
/-! ### reduced -/
def spRed (K : PySem.W.Frag) : Sp := fun vs H Q _ => ∃ (a b : Addr) (xs dv : List Int), vs = [.ref a, .ref b] ∧ SqL K H a (xs.map V.int) ∧ SqT K H b (dv.map V.int) ∧ 2 ≤ dv.length ∧ dv.length ≤ 100 ∧ xs.length ≤ 100 ∧ (∀ d ∈ dv, -1000 ≤ d ∧ d ≤ 1000) ∧
  ∀ t H', Same H H' → H t = none → H' t = some (.tup ((redL xs dv).map V.int)) → Q (.ref t) H'
theorem scRed : FnScope ["items", "polynomial", "_", "rest"] ["items", "polynomial"] (defScope sRed) := ⟨rfl, rfl, rfl, by decide +kernel, rfl, by decide +kernel, by decide +kernel⟩
theorem divGo_len (deg : Nat) (dv : List Int) : ∀ n r q, r.length = deg + n → (divGo deg dv n r q).2.length = deg
  | 0, r, q, h => by simpa [divGo] using h
  | n + 1, r, q, h => by
    unfold divGo
    refine divGo_len deg dv n _ _ ?_
    show (subN _ _ _ _ _).length = _
    rw [subN_len, List.length_dropLast]
    omega
theorem divL_len {xs dv : List Int} (h1 : 1 ≤ dv.length) (h2 : dv.length ≤ xs.length) : (divL xs dv).2.length = dv.length - 1 := divGo_len _ _ _ _ _ (by omega)
theorem divL_le {xs dv : List Int} (h1 : 1 ≤ dv.length) : (divL xs dv).2.length ≤ dv.length - 1 := by
  by_cases h2 : dv.length ≤ xs.length
  · rw [divL_len h1 h2]
    exact Nat.le_refl _
  · have e : xs.length - (dv.length - 1) = 0 := by omega
    unfold divL
    rw [e]
    show xs.length ≤ _
    omega
theorem ok_red (F : FnP K "reduced" sRed f fd) (B : Bl mg) (FD : FnP K "_divided" sDiv fD fdD) (gD : mg "_divided" = some (.ref fD)) : FnOk P w K mg base CX0 2 f fd ["items", "polynomial"] (spRed K) := by
  have GD : FnOk P w K mg base CX0 1 fD fdD ["items", "divisor"] (spDiv K) := ok_div FD B
  have bD : Binds K fdD ["items", "divisor"] [] := FD.bindsN fun _ _ _ _ _ _ us hl => match us, hl with | [_, _], _ => rfl
  refine F.ok scRed (fun vs H Q E h => ?_) (fun cdv A outer s H vs Q E hr h => ?_)
  · obtain ⟨a, b, xs, dv, rfl, _⟩ := h
    rfl
  · obtain ⟨a, b, xs, dv, rfl, hS, hD, d1, d2, x1, db, k⟩ := h
    refine ⟨_, PSs.nox (pss_cons (ps_asg (pe_call GD hr rfl gD FD.kp bD .nil pass0 (pa_cons (pv 0) (pa_cons (pv 1) pa_nil))) (pg_tup rfl (pgs_cons (pg_name (i := 2) scRed.nd rfl (Or.inl rfl)) (pgs_cons (pg_name (i := 3) scRed.nd rfl (Or.inl rfl)) pgs_nil))))
      (pss_one (ps_ret (pe_callTy call_tuple_of (by rfl) (B "tuple" (by decide +kernel)) (by decide +kernel) (pa_cons (pe_op op_cat (pv 3) (pe_op op_rep (pe_lst (pa_cons pe_int pa_nil)) (pe_op op_sub (pe_op op_sub (pe_callB call_len_seq (by rfl) (B "len" (by decide +kernel)) PySem.boot_len (pa_cons (pv 1) pa_nil)) pe_int) (pe_callB call_len_seq (by rfl) (B "len" (by decide +kernel)) PySem.boot_len (pa_cons (pv 3) pa_nil))))) pa_nil))))), ?_⟩
    refine ⟨_, rfl, _, rfl, a, b, xs, dv, rfl, hS, .inr hD, by omega, by omega, by omega, db, fun t q r H1 s1 nt nq nr h1 h2 h3 => ?_⟩
    have dl : (divL xs dv).2.length ≤ dv.length - 1 := divL_le (by omega)
    generalize hm : dv.length - 1 - (divL xs dv).2.length = m
    refine ⟨t, _, rfl, SqT.of h1, rfl, _, _, rfl, _, _, rfl, rfl, ?_⟩
    refine ⟨_, rfl, by show 1 ≤ sizeLine; decide, fun z hz => ?_⟩
    have sz : Same H1 (upd H1 z (.lst [.int 0])) := same_upd hz
    refine ⟨_, rfl, b, _, rfl, .inr ((s1.trans sz).tup hD), _, _, rfl, rfl, _, rfl, r, _, rfl, .inl (SqL.of (sz _ _ h3)), _, _, rfl, rfl, z, _, _, rfl, rfl, upd_same, ?_⟩
    have ez : ((dv.map V.int).length : Int) - 1 - ((((divL xs dv).2).map V.int).length : Int) = (m : Int) := by
      rw [List.length_map, List.length_map]
      omega
    rw [ez, Int.toNat_natCast, rep_flat]
    refine ⟨by omega, by omega, by show 1 * m ≤ sizeLine; rw [sizeLine_eq]; omega, fun y hy => ?_⟩
    have sy : Same H1 (upd (upd H1 z (.lst [.int 0])) y (.lst (List.replicate m (V.int 0)))) := same_new sz hy
    refine ⟨r, y, _, _, rfl, rfl, sy _ _ h3, upd_same, sl_1000 (by rw [List.length_map, List.length_replicate]; omega), fun c hc => ?_⟩
    refine ⟨c, _, rfl, .inl ⟨SqL.of upd_same, fun t2 ht2 => ?_⟩⟩
    have s3 := same_new (o := .lst (((divL xs dv).2.map V.int) ++ List.replicate m (V.int 0))) sy hc
    refine k t2 _ ((s1.trans s3).trans (same_upd ht2)) ((s1.trans s3).free ht2) ?_
    rw [upd_same]
    unfold redL
    rw [hm, List.map_append]
    simp
end
end K08

namespace K08
open PySem PySem.Spec PyProof.Rows L2
section
variable {prog : Program} {w : World} {A : Around} {E : Value → Shared → Prop} {s : Shared} {t : Addr} {its : List Value} {ns : List Int} {Q : Value → Shared → Prop}
/-- min of a tuple of ints -/
theorem minT_raw (hh : A.handled = none) (ht : s.heap.IsTuple t its.toArray) (hi : IntsAre its ns) (hne : 0 < ns.length)
    (h : ∀ h' tk M t', (∀ b o, s.heap.get? b = some o → h'.get? b = some o) → M ∈ ns → (∀ a, a ∈ ns → M ≤ a) → Q (.int M t') { s with heap := h', toks := tk }) : wpAny (model prog w) A (call (.builtin "min") [.ref t]) Q E s := by
  obtain ⟨xs, e⟩ := hi.allInts.items
  have hn : numsOf (intItems xs).toList = ns := by rw [← e]; exact hi.numsOf
  rw [nums_intItems] at hn
  subst hn
  rw [e] at ht
  have hsz : 0 < xs.size := by simpa using hne
  obtain ⟨o0, g0, _⟩ := id ht
  have hlt := Heap.lt_size g0
  refine call_min_walk (wpAny_pyIter_tuple ht ?_)
  refine ⟨_, [s.heap.objs.size, t], [s.heap.objs.size], _, _, _, _, rfl, Walks.tuple (A := A.in1) hh s.heap.objs.size t (Nat.ne_of_lt hlt) (intItems xs), ⟨⟨_, Heap.get?_push_size _ rfl, rfl, rfl⟩, ht.push _⟩, fun d hd => ?_, by simpa [intItems] using hsz, CmpOf.ints_lt (numAt xs) (fun _ _ => intItems_at), fun v h' tk hP hk => ?_⟩
  · show d < (s.heap.push _).objs.size
    rw [Heap.size_push]
    rcases List.mem_cons.mp hd with rfl | hd
    · exact Nat.lt_succ_self _
    · rw [List.mem_singleton.mp hd]
      exact Nat.lt_succ_of_lt hlt
  · obtain ⟨tt, rfl⟩ := intItems_at hP
    have sz : (intItems xs).size = xs.size := by simp [intItems]
    obtain ⟨h1, h2⟩ := argBest_lt (numAt xs) ((intItems xs).size - 1)
    refine h h' tk _ tt (fun b o g => hk b o (fun z => ?_) (Heap.get?_push_of_some _ g)) ?_ fun a ha => ?_
    · rw [List.mem_singleton.mp z] at g
      exact absurd (Heap.lt_size g) (Nat.lt_irrefl _)
    · rw [numAt_eq]; exact PySem.getD_mem (by rw [List.length_map, Array.length_toList]; omega)
    · obtain ⟨j, hj, rfl⟩ := mem_getD ha
      rw [List.length_map, Array.length_toList] at hj
      rw [← numAt_eq]; exact h2 j (by omega)
end
section
variable {X : Cx}
def rMinT (K : PySem.W.Frag) : List V → Hp → VK → Prop := fun vs H Q => ∃ (a : Addr) (ns : List Int), vs = [V.ref a] ∧ SqT K H a (ns.map V.int) ∧ 0 < ns.length ∧ ∀ m, m ∈ ns → (∀ y, y ∈ ns → m ≤ y) → Q (.int m) H
theorem cr_minT (hc : X.calm = true) : CallR X (.builtin "min") (rMinT X.K) := by
  intro pins s σ H vs us Q I r h
  obtain ⟨a, ns, rfl, hs, hne, q⟩ := h
  obtain ⟨its, rv, hl, _⟩ := I.tuple hs
  rw [Vals.ref1 r]
  exact minT_raw (I.ok.hd hc) hl rv.ints hne fun h' tk m t' hk h1 h2 => ⟨.int _, H, I.kept hk, ⟨_, rfl⟩, q m h1 h2⟩
theorem tyT {K : PySem.W.Frag} {H : Hp} {a : Addr} {xs : List V} (h : SqT K H a xs) : TyX K H (.ref a) (.type "tuple") := by
  rcases h with h | ⟨o, its, n, hk, hc, _⟩
  · rcases h with h | ⟨o, h⟩
    · exact .base (.tup h)
    · exact .fTuple h
  · exact .kTuple hk hc
end
/-! ### the kinds -/
section
variable {P : Program} {w : World} {K : PySem.W.Frag} {mg : Str → Option Value} {base : Heap} {f f1 f2 f3 : Addr} {fd fd1 fd2 fd3 : FuncData}
def spIsInt : Sp := fun vs H Q _ => ∃ i : Int, vs = [.int i] ∧ Q (.bl true) H
theorem scIsInt : FnScope ["thing"] ["thing"] (defScope sIsInt) := ⟨rfl, rfl, rfl, by decide +kernel, rfl, by decide +kernel, by decide +kernel⟩
theorem ok_isInt (F : FnP K "is_integer" sIsInt f fd) (B : Bl mg) : FnOk P w K mg base CX0 1 f fd ["thing"] spIsInt := by
  refine F.ok scIsInt (fun vs H Q E h => ?_) (fun cdv A outer s H vs Q E hr h => ?_)
  · obtain ⟨e, rfl, _⟩ := h
    rfl
  · obtain ⟨i, rfl, k⟩ := h
    refine ⟨_, PSs.nox (pss_one (ps_ret (pe_and (pe_callB call_isi (by rfl) (B "isinstance" (by decide +kernel)) (by decide +kernel) (pa_cons (pv 0) (pa_cons (pe_bltn (v := .ty "int") rfl (B "int" (by decide +kernel)) (by decide +kernel) rfl) pa_nil)))
      (pe_one (pe_not (pe_callB call_isi (by rfl) (B "isinstance" (by decide +kernel)) (by decide +kernel) (pa_cons (pv 0) (pa_cons (pe_bltn (v := .ty "bool") rfl (B "bool" (by decide +kernel)) (by decide +kernel) rfl) pa_nil)))))))), ?_⟩
    refine ⟨_, rfl, _, _, .type "int", _, true, rfl, .ty "int", .base (.int i), kit_ty (by decide +kernel), true, rfl, ?_⟩
    exact ⟨_, rfl, _, _, .type "int", _, false, rfl, .ty "bool", .base (.int i), kit_ty (by decide +kernel), false, rfl, k⟩
def spIsInts (K : PySem.W.Frag) : Sp := fun vs H Q _ => ∃ (v : V) (ns : List Int), vs = [v] ∧ TupI K H v ns ∧ ns.length ≤ 100 ∧ ∀ H', Same H H' → Q (.bl true) H'
theorem scIsInts : FnScope ["thing", "item"] ["thing"] (defScope sIsInts) := ⟨rfl, rfl, rfl, by decide +kernel, rfl, by decide +kernel, by decide +kernel⟩
theorem all_true (n : Nat) : (List.replicate n true).all id = true := by simp
theorem ok_isInts (F : FnP K "is_integers" sIsInts f fd) (B : Bl mg) (F1 : FnP K "is_integer" sIsInt f1 fd1) (g1 : mg "is_integer" = some (.ref f1)) : FnOk P w K mg base CX0 2 f fd ["thing"] (spIsInts K) := by
  have G1 : FnOk P w K mg base CX0 1 f1 fd1 ["thing"] spIsInt := ok_isInt F1 B
  have b1 : Binds K fd1 ["thing"] [] := F1.bindsN fun _ _ _ _ _ _ us hl => match us, hl with | [_], _ => rfl
  refine F.ok scIsInts (fun vs H Q E h => ?_) (fun cdv A outer s H vs Q E hr h => ?_)
  · obtain ⟨v, ns, rfl, _⟩ := h
    rfl
  · obtain ⟨v, ns, rfl, ⟨a, rfl, ha⟩, hl, k⟩ := h
    refine ⟨_, PSs.nox (pss_one (ps_ret (pe_and (pe_callB call_isi (by rfl) (B "isinstance" (by decide +kernel)) (by decide +kernel) (pa_cons (pv 0) (pa_cons (pe_bltn (v := .ty "tuple") rfl (B "tuple" (by decide +kernel)) (by decide +kernel) rfl) pa_nil)))
      (pe_one (pe_callB (cr_all rfl) (by rfl) (B "all" (by decide +kernel)) (by decide +kernel) (pa_cons (pe_lc (own := [("item", 1)]) (g := gName 1) (tt := tYes) (te := tCall spIsInt [] E0 (tCons (tVar 1) tNil)) rfl scIsInts.nd (pi_tup (pv 0))
        (blkOk_by (own := [("item", 1)]) (N := ["thing", "item"]) (sc := defScope sIsInts) (by decide +kernel)) (fun _ _ _ _ _ => pg_name (i := 1) scIsInts.nd rfl (Or.inl rfl)) (fun _ _ _ _ _ => pts_nil) (fun _ _ _ _ _ => pe_call G1 hr rfl g1 F1.kp b1 .nil pass0 (pa_cons (pv 1) pa_nil))) pa_nil)))))), ?_⟩
    refine ⟨_, rfl, _, _, .type "tuple", _, true, rfl, .ty "tuple", tyT ha, kit_ty (by decide +kernel), true, rfl, ?_⟩
    refine ⟨_, rfl, a, rfl, ⟨_, ha⟩, fun D hD => ?_⟩
    refine lc_tup (K := K) (a := a) (xs := ns.map V.int) (fun i H2 => Same H H2 ∧ H2 D = some (.lst ((List.replicate i true).map V.bl))) ⟨same_upd hD, upd_same⟩ (fun i H2 _ ⟨s2, _⟩ => s2.tup ha) ?_ ?_
    · rintro i y H2 hi ⟨s2, h2⟩
      obtain ⟨c, rfl, hc⟩ := getI hi
      have := ltL hc
      refine ⟨rfl, _, rfl, c, rfl, _, h2, sl_lt (by rw [List.length_map, List.length_replicate]; omega), same_at s2 hD, ?_⟩
      rw [upd_same, List.replicate_succ', List.map_append]
      rfl
    · rintro H2 ⟨s2, h2⟩
      refine ⟨D, _, rfl, SqL.of h2, ?_⟩
      rw [all_true]
      exact k H2 s2
/-! ### _size -/
def spSize (K : PySem.W.Frag) : Sp := fun vs H Q _ => ∃ (v : V) (r : List Int), vs = [v] ∧ TupI K H v r ∧ r ∈ RR ∧ ∃ n : Int, n ≤ 60 ∧ Q (.int n) H
theorem rr_size : ∀ r ∈ RR, ∀ i ∈ List.range (r.length + 1), 1 ≤ sizeL (r.take i) ∧ sizeL (r.take i) ≤ 60 := by decide +kernel
def spSize' (K : PySem.W.Frag) : Sp := fun vs H Q _ => ∃ (v : V) (r : List Int), vs = [v] ∧ TupI K H v r ∧ r ∈ RR ∧ Q (.int (sizeL r)) H
theorem scSize : FnScope ["lengths", "size", "length"] ["lengths"] (defScope sSize) := ⟨rfl, rfl, rfl, by decide +kernel, rfl, by decide +kernel, by decide +kernel⟩
theorem size_take {r : List Int} {i : Nat} {x : Int} (h : r[i]? = some x) : sizeL (r.take (i + 1)) = sizeL (r.take i) * x := by
  rw [takeS h]
  unfold sizeL
  rw [List.foldl_append]
  rfl
theorem ok_size (F : FnP K "_size" sSize f fd) : FnOk P w K mg base CX0 1 f fd ["lengths"] (spSize' K) := by
  refine F.ok scSize (fun vs H Q E h => ?_) (fun cdv A outer s H vs Q E hr h => ?_)
  · obtain ⟨v, r, rfl, _⟩ := h
    rfl
  · obtain ⟨v, r, rfl, ⟨a, rfl, ha⟩, h14, k⟩ := h
    refine ⟨_, PSs.nox (pss_cons (ps_set (i := 1) scSize.nd rfl (Or.inl rfl) pe_int)
      (pss_cons (ps_for PassesOwn.never rfl (pi_tup (pv 0)) (pg_name (i := 2) scSize.nd rfl (Or.inl rfl)) (pss_one (ps_set (i := 1) scSize.nd rfl (Or.inl rfl) (pe_op op_mul (pv 1) (pv 2)))))
      (pss_one (ps_ret (pv 1))))), ?_⟩
    refine ⟨_, rfl, a, rfl, ⟨_, ha⟩, for_tup (K := K) (a := a) (xs := r.map V.int) (fun i σ H2 => ∃ u, σ = [some (.ref a), some (.int (sizeL (r.take i))), u] ∧ H2 = H) ⟨none, rfl, rfl⟩ (fun i σ H2 _ ⟨_, _, e⟩ => by rw [e]; exact ha) ?_ ?_⟩
    · rintro i y σ H2 hi ⟨u, rfl, rfl⟩
      obtain ⟨c, rfl, hc⟩ := getI hi
      have hl := ltL hc
      have h1 := rr_size r h14 i (List.mem_range.mpr (by omega))
      refine ⟨_, rfl, _, rfl, _, _, rfl, rfl, Or.inl ⟨by omega, by omega⟩, some (.int c), by rw [size_take hc]; rfl, rfl⟩
    · rintro σ H2 ⟨u, rfl, rfl⟩
      refine ⟨_, rfl, ?_⟩
      rw [List.length_map, List.take_length]
      exact k
end
end K08

namespace K08
open PySem PySem.Spec PyProof.Rows L2
theorem rr_whole {r : List Int} (h : r ∈ RR) {p : List Int} (hp : p ∈ placesL r) : p.length = r.length := by
  have z := rr_plen r h r.length (List.mem_range.mpr (Nat.lt_succ_self _))
  rw [List.take_length] at z
  exact z p hp
theorem rr_bd : ∀ r ∈ RR, ∀ p ∈ placesL r, ∀ i ∈ List.range r.length, 0 ≤ p.getD i 0 ∧ p.getD i 0 < r.getD i 0 := by decide +kernel
theorem rr_it : ∀ r ∈ RR, ∀ p ∈ placesL r, ∀ x ∈ p, 0 ≤ x ∧ x < 60 := by decide +kernel
section
variable {P : Program} {w : World} {K : PySem.W.Frag} {mg : Str → Option Value} {base : Heap} {f f1 f2 f3 f4 : Addr} {fd fd1 fd2 fd3 fd4 : FuncData}
/-! ### are_rings, check_rings -/
def spAre (K : PySem.W.Frag) : Sp := fun vs H Q _ => ∃ (v : V) (r : List Int), vs = [v] ∧ TupI K H v r ∧ r ∈ RR ∧ ∀ H', Same H H' → Q (.bl true) H'
theorem scAre : FnScope ["thing"] ["thing"] (defScope sAre) := ⟨rfl, rfl, rfl, by decide +kernel, rfl, by decide +kernel, by decide +kernel⟩
theorem ok_are (F : FnP K "are_rings" sAre f fd) (B : Bl mg) (F1 : FnP K "is_integers" sIsInts f1 fd1) (g1 : mg "is_integers" = some (.ref f1)) (G1 : FnOk P w K mg base CX0 2 f1 fd1 ["thing"] (spIsInts K)) (F2 : FnP K "_size" sSize f2 fd2) (g2 : mg "_size" = some (.ref f2))
    (gR : ∃ t, mg "MOST_RINGS" = some (.int 4 t)) (gP : ∃ t, mg "MOST_PLACES" = some (.int 60 t)) : FnOk P w K mg base CX0 3 f fd ["thing"] (spAre K) := by
  have G2 : FnOk P w K mg base CX0 1 f2 fd2 ["lengths"] (spSize' K) := ok_size F2
  have b1 : Binds K fd1 ["thing"] [] := F1.bindsN fun _ _ _ _ _ _ us hl => match us, hl with | [_], _ => rfl
  have b2 : Binds K fd2 ["lengths"] [] := F2.bindsN fun _ _ _ _ _ _ us hl => match us, hl with | [_], _ => rfl
  obtain ⟨t1, e1⟩ := gR
  obtain ⟨t2, e2⟩ := gP
  refine F.ok scAre (fun vs H Q E h => ?_) (fun cdv A outer s H vs Q E hr h => ?_)
  · obtain ⟨v, r, rfl, _⟩ := h
    rfl
  · obtain ⟨v, r, rfl, ⟨a, rfl, ha⟩, h14, k⟩ := h
    refine ⟨_, PSs.nox (pss_cons (ps_if (PW.pt (pw_or (pt_not (pt_val (pe_call G1 hr rfl g1 F1.kp b1 .nil pass0 (pa_cons (pv 0) pa_nil)))) (pw_or1 (pt_not (pt_chain op_le op_le pe_int (pe_callB call_len_seq (by rfl) (B "len" (by decide +kernel)) PySem.boot_len (pa_cons (pv 0) pa_nil)) (pe_glob (v := .int 4) rfl e1 ⟨_, rfl⟩))))))
        (pss_one ps_never) pss_nil)
      (pss_one (ps_ret (pe_and (pe_cmpR op_ge (pe_callB (cr_minT rfl) (by rfl) (B "min" (by decide +kernel)) (by decide +kernel) (pa_cons (pv 0) pa_nil)) pe_int (nomark _))
        (pe_one (pe_cmpR op_le (pe_call G2 (hr.mono (by decide)) rfl g2 F2.kp b2 .nil pass0 (pa_cons (pv 0) pa_nil)) (pe_glob (v := .int 60) rfl e2 ⟨_, rfl⟩) (nomark _))))))), ?_⟩
    have hn := rr_len r h14
    refine ⟨_, rfl, _, r, rfl, ⟨a, rfl, ha⟩, by omega, fun H1 s1 => ?_⟩
    have ha1 : SqT K H1 a (r.map V.int) := s1.tup ha
    refine ⟨_, rfl, ?_⟩
    refine iteF ?_
    refine ⟨_, rfl, a, _, rfl, .inr ha1, _, _, rfl, rfl, _, rfl, ?_⟩
    have c1 : decide ((1 : Int) ≤ ((r.map V.int).length : Int)) = true := decide_eq_true (by rw [List.length_map]; omega)
    have c2 : decide (((r.map V.int).length : Int) ≤ 4) = true := decide_eq_true (by rw [List.length_map]; omega)
    refine ite2 (fun _ => ?_) (fun z => absurd c1 z)
    refine ⟨_, _, rfl, rfl, _, rfl, ?_⟩
    rw [c2]
    refine iteF ?_
    refine ⟨_, rfl, a, r, rfl, ha1, by omega, fun m hm hle => ⟨_, _, rfl, rfl, _, rfl, ?_⟩⟩
    have c3 : decide ((2 : Int) ≤ m) = true := decide_eq_true (rr_pos r h14 m hm).1
    refine ite2 (fun _ => ?_) (fun z => absurd c3 z)
    have z := rr_size r h14 r.length (List.mem_range.mpr (Nat.lt_succ_self _))
    rw [List.take_length] at z
    refine ⟨_, rfl, _, r, rfl, ⟨a, rfl, ha1⟩, h14, _, _, rfl, rfl, ?_⟩
    have c4 : decide (sizeL r ≤ 60) = true := decide_eq_true z.2
    show Q (.bl (decide (sizeL r ≤ 60))) H1
    rw [c4]
    exact k H1 s1
def spNon (K : PySem.W.Frag) : Sp := fun vs H Q _ => ∃ (v : V) (r : List Int), vs = [v] ∧ TupI K H v r ∧ r ∈ RR ∧ ∀ H', Same H H' → Q .non H'
theorem scChkR : FnScope ["rings"] ["rings"] (defScope sChkR) := ⟨rfl, rfl, rfl, by decide +kernel, rfl, by decide +kernel, by decide +kernel⟩
theorem ok_chkR (F : FnP K "check_rings" sChkR f fd) (F1 : FnP K "are_rings" sAre f1 fd1) (g1 : mg "are_rings" = some (.ref f1)) (G1 : FnOk P w K mg base CX0 3 f1 fd1 ["thing"] (spAre K)) : FnOk P w K mg base CX0 4 f fd ["rings"] (spNon K) := by
  have b1 : Binds K fd1 ["thing"] [] := F1.bindsN fun _ _ _ _ _ _ us hl => match us, hl with | [_], _ => rfl
  refine F.ok scChkR (fun vs H Q E h => ?_) (fun cdv A outer s H vs Q E hr h => ?_)
  · obtain ⟨v, r, rfl, _⟩ := h
    rfl
  · obtain ⟨v, r, rfl, ⟨a, rfl, ha⟩, h14, k⟩ := h
    refine ⟨_, PSs.nox (pss_one (ps_if (pt_not (pt_val (pe_call G1 hr rfl g1 F1.kp b1 .nil pass0 (pa_cons (pv 0) pa_nil)))) (pss_one ps_never) pss_nil)), ?_⟩
    refine ⟨_, rfl, _, r, rfl, ⟨a, rfl, ha⟩, h14, fun H1 s1 => ⟨_, rfl, iteF (k H1 s1)⟩⟩
theorem scOrdOf : FnScope ["rings"] ["rings"] (defScope sOrdOf) := ⟨rfl, rfl, rfl, by decide +kernel, rfl, by decide +kernel, by decide +kernel⟩
theorem ok_ordOf (F : FnP K "order_of" sOrdOf f fd) (F1 : FnP K "check_rings" sChkR f1 fd1) (g1 : mg "check_rings" = some (.ref f1)) (G1 : FnOk P w K mg base CX0 4 f1 fd1 ["rings"] (spNon K)) (F2 : FnP K "common_order" sOrder f2 fd2) (g2 : mg "common_order" = some (.ref f2)) (G2 : FnOk P w K mg base CX0 1 f2 fd2 ["rings"] (spOrder K)) : FnOk P w K mg base CX0 5 f fd ["rings"] (spOrder K) := by
  have b1 : Binds K fd1 ["rings"] [] := F1.bindsN fun _ _ _ _ _ _ us hl => match us, hl with | [_], _ => rfl
  have b2 : Binds K fd2 ["rings"] [] := F2.bindsN fun _ _ _ _ _ _ us hl => match us, hl with | [_], _ => rfl
  refine F.ok scOrdOf (fun vs H Q E h => ?_) (fun cdv A outer s H vs Q E hr h => ?_)
  · obtain ⟨v, r, rfl, _⟩ := h
    rfl
  · obtain ⟨v, r, rfl, ⟨a, rfl, ha⟩, h14, k⟩ := h
    refine ⟨_, PSs.nox (pss_cons (ps_expr (pe_call G1 hr rfl g1 F1.kp b1 .nil pass0 (pa_cons (pv 0) pa_nil))) (pss_one (ps_ret (pe_call G2 (hr.mono (by decide)) rfl g2 F2.kp b2 .nil pass0 (pa_cons (pv 0) pa_nil))))), ?_⟩
    exact ⟨_, rfl, _, r, rfl, ⟨a, rfl, ha⟩, h14, fun H1 s1 => ⟨_, rfl, _, r, rfl, ⟨a, rfl, s1.tup ha⟩, h14, fun H2 s2 => k H2 (s1.trans s2)⟩⟩
/-! ### is_place, check_place -/
def spIsPl (K : PySem.W.Frag) : Sp := fun vs H Q _ => ∃ (v u : V) (r p : List Int), vs = [v, u] ∧ TupI K H v r ∧ TupI K H u p ∧ r ∈ RR ∧ p ∈ placesL r ∧ ∀ H', Same H H' → Q (.bl true) H'
theorem scIsPl : FnScope ["rings", "thing", "k"] ["rings", "thing"] (defScope sIsPl) := ⟨rfl, rfl, rfl, by decide +kernel, rfl, by decide +kernel, by decide +kernel⟩
theorem ok_isPl (F : FnP K "is_place" sIsPl f fd) (B : Bl mg) (F1 : FnP K "is_integers" sIsInts f1 fd1) (g1 : mg "is_integers" = some (.ref f1)) (G1 : FnOk P w K mg base CX0 2 f1 fd1 ["thing"] (spIsInts K)) : FnOk P w K mg base CX0 3 f fd ["rings", "thing"] (spIsPl K) := by
  have b1 : Binds K fd1 ["thing"] [] := F1.bindsN fun _ _ _ _ _ _ us hl => match us, hl with | [_], _ => rfl
  refine F.ok scIsPl (fun vs H Q E h => ?_) (fun cdv A outer s H vs Q E hr h => ?_)
  · obtain ⟨v, u, r, p, rfl, _⟩ := h
    rfl
  · obtain ⟨v, u, r, p, rfl, ⟨a, rfl, ha⟩, ⟨b, rfl, hb⟩, h14, hp, k⟩ := h
    refine ⟨_, PSs.nox (pss_cons (ps_if (PW.pt (pw_or (pt_not (pt_val (pe_call G1 hr rfl g1 F1.kp b1 .nil pass0 (pa_cons (pv 1) pa_nil)))) (pw_or1 (pt_cmpR op_ne (pe_callB call_len_seq (by rfl) (B "len" (by decide +kernel)) PySem.boot_len (pa_cons (pv 1) pa_nil)) (pe_callB call_len_seq (by rfl) (B "len" (by decide +kernel)) PySem.boot_len (pa_cons (pv 0) pa_nil)) (nomark _)))))
        (pss_one ps_never) pss_nil)
      (pss_one (ps_ret (pe_callB (cr_all rfl) (by rfl) (B "all" (by decide +kernel)) (by decide +kernel) (pa_cons
        (pe_lc (own := [("k", 2)]) (g := gName 2) (tt := tYes) (te := tChain (rI0 fun i j => .bl (decide (i ≤ j))) (rI0 fun i j => .bl (decide (i < j))) (tC (.int 0)) (tOp (rIxT K) (tVar 1) (tVar 2)) (tOp (rIxT K) (tVar 0) (tVar 2))) rfl scIsPl.nd (pi_range1 rfl (B "range" (by decide +kernel)) (pa_cons (pe_callB call_len_seq (by rfl) (B "len" (by decide +kernel)) PySem.boot_len (pa_cons (pv 0) pa_nil)) pa_nil))
          (blkOk_by (own := [("k", 2)]) (N := ["rings", "thing", "k"]) (sc := defScope sIsPl) (by decide +kernel)) (fun _ _ _ _ _ => pg_name (i := 2) scIsPl.nd rfl (Or.inl rfl)) (fun _ _ _ _ _ => pts_nil) (fun _ _ _ _ _ => pe_chain op_le op_lt pe_int (pe_ix ix_tup (pv 1) (pv 2) (fun _ _ => rfl)) (pe_ix ix_tup (pv 0) (pv 2) (fun _ _ => rfl)))) pa_nil))))), ?_⟩
    have hn := rr_len r h14
    have hl := rr_whole h14 hp
    refine ⟨_, rfl, _, p, rfl, ⟨b, rfl, hb⟩, by omega, fun H1 s1 => ⟨_, rfl, iteF ?_⟩⟩
    refine ⟨_, rfl, b, _, rfl, .inr (s1.tup hb), _, rfl, a, _, rfl, .inr (s1.tup ha), rfl, _, rfl, ?_⟩
    refine iteNS (by rw [List.length_map, List.length_map, hl]) ?_
    refine ⟨_, rfl, a, _, rfl, .inr (s1.tup ha), _, rfl, by rw [List.length_map]; omega, by rw [List.length_map]; omega, fun D hD => ?_⟩
    have en : ((r.map V.int).length : Int).toNat = r.length := by rw [List.length_map]; omega
    rw [en]
    refine lc_range (lo := 0) (n := r.length) (fun i H2 => Same H1 H2 ∧ H2 D = some (.lst ((List.replicate i true).map V.bl))) ⟨same_upd hD, upd_same⟩ ?_ ?_
    · rintro i H2 hi ⟨s2, h2⟩
      have e0 : (0 : Int) + (i : Int) = (i : Int) := Int.zero_add _
      have bd := rr_bd r h14 p hp i (List.mem_range.mpr hi)
      have g1' : atI (p.map V.int) ((0 : Int) + (i : Int)) = some (V.int (p.getD i 0)) := by rw [e0]; exact atI_nat (getD_of (by omega))
      have g2' : atI (r.map V.int) ((0 : Int) + (i : Int)) = some (V.int (r.getD i 0)) := by rw [e0]; exact atI_nat (getD_of hi)
      have c1 : decide ((0 : Int) ≤ p.getD i 0) = true := decide_eq_true bd.1
      have c2 : decide (p.getD i 0 < r.getD i 0) = true := decide_eq_true bd.2
      refine ⟨rfl, _, rfl, _, rfl, b, _, _, _, rfl, rfl, (s1.trans s2).tup hb, g1', _, _, rfl, rfl, _, rfl, ?_⟩
      refine ite2 (fun _ => ?_) (fun z => absurd c1 z)
      refine ⟨_, rfl, _, rfl, a, _, _, _, rfl, rfl, (s1.trans s2).tup ha, g2', _, _, rfl, rfl, ?_⟩
      refine ⟨_, h2, sl_lt (by rw [List.length_map, List.length_replicate]; omega), same_at s2 hD, ?_⟩
      rw [upd_same, List.replicate_succ', List.map_append]
      show some (HO.lst (_ ++ [V.bl (decide (p.getD i 0 < r.getD i 0))])) = _
      rw [c2]
      rfl
    · rintro H2 ⟨s2, h2⟩
      refine ⟨D, _, rfl, SqL.of h2, ?_⟩
      rw [all_true]
      exact k H2 (s1.trans s2)
def spChkP (K : PySem.W.Frag) : Sp := fun vs H Q _ => ∃ (v u : V) (r p : List Int), vs = [v, u] ∧ TupI K H v r ∧ TupI K H u p ∧ r ∈ RR ∧ p ∈ placesL r ∧ ∀ H', Same H H' → Q .non H'
theorem scChkP : FnScope ["rings", "place"] ["rings", "place"] (defScope sChkP) := ⟨rfl, rfl, rfl, by decide +kernel, rfl, by decide +kernel, by decide +kernel⟩
theorem ok_chkP (F : FnP K "check_place" sChkP f fd) (F1 : FnP K "check_rings" sChkR f1 fd1) (g1 : mg "check_rings" = some (.ref f1)) (G1 : FnOk P w K mg base CX0 4 f1 fd1 ["rings"] (spNon K)) (F2 : FnP K "is_place" sIsPl f2 fd2) (g2 : mg "is_place" = some (.ref f2)) (G2 : FnOk P w K mg base CX0 3 f2 fd2 ["rings", "thing"] (spIsPl K)) :
    FnOk P w K mg base CX0 5 f fd ["rings", "place"] (spChkP K) := by
  have b1 : Binds K fd1 ["rings"] [] := F1.bindsN fun _ _ _ _ _ _ us hl => match us, hl with | [_], _ => rfl
  have b2 : Binds K fd2 ["rings", "thing"] [] := F2.bindsN fun _ _ _ _ _ _ us hl => match us, hl with | [_, _], _ => rfl
  refine F.ok scChkP (fun vs H Q E h => ?_) (fun cdv A outer s H vs Q E hr h => ?_)
  · obtain ⟨v, u, r, p, rfl, _⟩ := h
    rfl
  · obtain ⟨v, u, r, p, rfl, ⟨a, rfl, ha⟩, ⟨b, rfl, hb⟩, h14, hp, k⟩ := h
    refine ⟨_, PSs.nox (pss_cons (ps_expr (pe_call G1 hr rfl g1 F1.kp b1 .nil pass0 (pa_cons (pv 0) pa_nil)))
      (pss_one (ps_if (pt_not (pt_val (pe_call G2 (hr.mono (by decide)) rfl g2 F2.kp b2 .nil pass0 (pa_cons (pv 0) (pa_cons (pv 1) pa_nil))))) (pss_one ps_never) pss_nil))), ?_⟩
    exact ⟨_, rfl, _, r, rfl, ⟨a, rfl, ha⟩, h14, fun H1 s1 => ⟨_, rfl, _, rfl, _, _, r, p, rfl, ⟨a, rfl, s1.tup ha⟩, ⟨b, rfl, s1.tup hb⟩, h14, hp, fun H2 s2 => ⟨_, rfl, iteF (k H2 (s1.trans s2))⟩⟩⟩
end
end K08

namespace K08
open PySem PySem.Spec PyProof.Rows L2
theorem n1 : ¬ (("rings" : Str) = "order") := by decide +kernel
theorem n2 : ¬ (("rings" : Str) = "polynomial") := by decide +kernel
theorem n3 : ¬ (("rings" : Str) = "degree") := by decide +kernel
theorem n4 : ¬ (("rings" : Str) = "places") := by decide +kernel
theorem n5 : ¬ (("order" : Str) = "polynomial") := by decide +kernel
theorem n6 : ¬ (("order" : Str) = "degree") := by decide +kernel
theorem n7 : ¬ (("order" : Str) = "places") := by decide +kernel
theorem n8 : ¬ (("polynomial" : Str) = "degree") := by decide +kernel
theorem n9 : ¬ (("polynomial" : Str) = "places") := by decide +kernel
theorem n10 : ¬ (("degree" : Str) = "places") := by decide +kernel
/-- the attributes of a floor -/
def flds (a : Addr) (e : Int) (po : Addr) (d : Int) (pl : Addr) : List (Str × V) := [("rings", .ref a), ("order", .int e), ("polynomial", .ref po), ("degree", .int d), ("places", .ref pl)]
theorem pf1 (a : Addr) : putF "rings" (.ref a) [] = [(("rings" : Str), V.ref a)] := rfl
theorem pf2 (a : Addr) (e : Int) : putF "order" (.int e) [("rings", V.ref a)] = [(("rings" : Str), V.ref a), ("order", .int e)] := by simp [putF, n1]
theorem pf3 (a : Addr) (e : Int) (po : Addr) : putF "polynomial" (.ref po) [("rings", V.ref a), ("order", .int e)] = [(("rings" : Str), V.ref a), ("order", .int e), ("polynomial", .ref po)] := by simp [putF, n2, n5]
theorem pf4 (a : Addr) (e : Int) (po : Addr) (d : Int) : putF "degree" (.int d) [("rings", V.ref a), ("order", .int e), ("polynomial", .ref po)] = [(("rings" : Str), V.ref a), ("order", .int e), ("polynomial", .ref po), ("degree", .int d)] := by simp [putF, n3, n6, n8]
theorem pf5 (a : Addr) (e : Int) (po : Addr) (d : Int) (pl : Addr) : putF "places" (.ref pl) [("rings", V.ref a), ("order", .int e), ("polynomial", .ref po), ("degree", .int d)] = flds a e po d pl := by simp [putF, flds, n4, n7, n9, n10]
theorem lk {x y : Str} {v : V} {r : List (Str × V)} (h : ¬ x = y) : ((x, v) :: r).lookup y = r.lookup y := by
  rw [List.lookup_cons]
  have e : (y == x) = false := by
    rw [beq_eq_false_iff_ne]
    exact fun z => h z.symm
  rw [e]
theorem lk0 {x : Str} {v : V} {r : List (Str × V)} : ((x, v) :: r).lookup x = some v := by
  rw [List.lookup_cons, beq_self_eq_true]
theorem g_rings {a e po d pl} : (flds a e po d pl).lookup ("rings" : Str) = some (.ref a) := lk0
theorem g_order {a e po d pl} : (flds a e po d pl).lookup ("order" : Str) = some (.int e) := by
  unfold flds
  rw [lk n1, lk0]
theorem g_poly {a e po d pl} : (flds a e po d pl).lookup ("polynomial" : Str) = some (.ref po) := by
  unfold flds
  rw [lk n2, lk n5, lk0]
theorem g_degree {a e po d pl} : (flds a e po d pl).lookup ("degree" : Str) = some (.int d) := by
  unfold flds
  rw [lk n3, lk n6, lk n8, lk0]
theorem g_places {a e po d pl} : (flds a e po d pl).lookup ("places" : Str) = some (.ref pl) := by
  unfold flds
  rw [lk n4, lk n7, lk n9, lk n10, lk0]
theorem g_no {a e po d pl} : (flds a e po d pl).lookup ("pairing_of" : Str) = none := by
  unfold flds
  rw [lk (by decide +kernel), lk (by decide +kernel), lk (by decide +kernel), lk (by decide +kernel), lk (by decide +kernel)]
  rfl
structure FlT (K : PySem.W.Frag) (mg : Str → Option Value) (C fI fM : Addr) : Prop where
  cl : Cls K C
  aR : NoAttr K C "rings"
  aO : NoAttr K C "order"
  aP : NoAttr K C "polynomial"
  aD : NoAttr K C "degree"
  aL : NoAttr K C "places"
  mkk : Mk K C fI
  mt : Meth K C "pairing_of" fM
  mgC : mg "Floor" = some (.ref C)
/-- a floor of these rings at p -/
def FloorAt (K : PySem.W.Frag) (C : Addr) (H : Hp) (p : Addr) (r : List Int) : Prop := ∃ (dx a po pl : Addr), H p = some (.ins C dx (flds a (ordL r) po (((polyL (ordL r)).length : Int) - 1) pl)) ∧ SqT K H a (r.map V.int) ∧ SqT K H po ((polyL (ordL r)).map V.int) ∧ PlL K H pl (placesL r)
theorem _root_.L2.Same.floor {K : PySem.W.Frag} {C : Addr} {H H' : Hp} {p : Addr} {r : List Int} (e : Same H H') (h : FloorAt K C H p r) : FloorAt K C H' p r := by
  obtain ⟨dx, a, po, pl, h1, h2, h3, h4⟩ := h
  exact ⟨dx, a, po, pl, e _ _ h1, e.tup h2, e.tup h3, e.pll h4⟩
section
variable {P : Program} {w : World} {K : PySem.W.Frag} {mg : Str → Option Value} {base : Heap} {f f1 f2 f3 f4 C fI fM : Addr} {fd fd1 fd2 fd3 fd4 : FuncData}
def spFInit (K : PySem.W.Frag) (C : Addr) : Sp := fun vs H Q _ => ∃ (p dx : Addr) (v : V) (r : List Int), vs = [.ref p, v] ∧ H p = some (.ins C dx []) ∧ TupI K H v r ∧ r ∈ RR ∧ ∀ H', FloorAt K C H' p r → (∀ b o, H b = some o → b ≠ p → H' b = some o) → Q .non H'
theorem scFI : FnScope ["self", "rings"] ["self", "rings"] (defScope sFInit) := ⟨rfl, rfl, rfl, by decide +kernel, rfl, by decide +kernel, by decide +kernel⟩
theorem sqt_ins {K : PySem.W.Frag} {H : Hp} {a D : Addr} {xs : List V} {C dx : Addr} {fs : List (Str × V)} {o : HO} (h : SqT K H a xs) (hD : H D = some (.ins C dx fs)) : SqT K (upd H D o) a xs := by
  rcases h with h | h
  · rcases h with h | ⟨u, h⟩
    · exact .inl (.inl (by rw [upd_ne (ne_of h hD (by intro z; cases z))]; exact h))
    · exact .inl (.inr ⟨u, by rw [upd_ne (ne_of h hD (by intro z; cases z))]; exact h⟩)
  · exact .inr h
theorem pll_ins {K : PySem.W.Frag} {H : Hp} {a D : Addr} {ps : List (List Int)} {C dx : Addr} {fs : List (Str × V)} {o : HO} (h : PlL K H a ps) (hD : H D = some (.ins C dx fs)) : PlL K (upd H D o) a ps := by
  obtain ⟨ks, h1, h2, h3⟩ := h
  exact ⟨ks, by rw [upd_ne (ne_of h1 hD (by intro z; cases z))]; exact h1, h2, fun p hp => sqt_ins (h3 p hp) hD⟩
theorem ok_fInit (F : FunD K "__init__" "Floor.__init__" (defArgs sFInit) (defBody sFInit) (defScope sFInit) [] [] f fd) (B : Bl mg) (T : FlT K mg C fI fM) (F1 : FnP K "common_order" sOrder f1 fd1) (g1 : mg "common_order" = some (.ref f1)) (G1 : FnOk P w K mg base CX0 1 f1 fd1 ["rings"] (spOrder K))
    (F2 : FnP K "polynomial_of" sPoly f2 fd2) (g2 : mg "polynomial_of" = some (.ref f2)) (G2 : FnOk P w K mg base CX0 2 f2 fd2 ["order"] (spPoly K)) (F3 : FnP K "list_places" sPlaces f3 fd3) (g3 : mg "list_places" = some (.ref f3)) (G3 : FnOk P w K mg base CX0 1 f3 fd3 ["rings"] (spPlaces K)) :
    FnOk P w K mg base CX0 3 f fd ["self", "rings"] (spFInit K C) := by
  have b1 : Binds K fd1 ["rings"] [] := F1.bindsN fun _ _ _ _ _ _ us hl => match us, hl with | [_], _ => rfl
  have b2 : Binds K fd2 ["order"] [] := F2.bindsN fun _ _ _ _ _ _ us hl => match us, hl with | [_], _ => rfl
  have b3 : Binds K fd3 ["rings"] [] := F3.bindsN fun _ _ _ _ _ _ us hl => match us, hl with | [_], _ => rfl
  refine F.ok scFI (fun vs H Q E h => ?_) (fun cdv A outer s H vs Q E hr h => ?_)
  · obtain ⟨p, dx, v, r, rfl, _⟩ := h
    rfl
  · obtain ⟨p, dx, v, r, rfl, hp, ⟨a, rfl, ha⟩, h14, k⟩ := h
    refine ⟨_, PSs.nox (pss_cons (ps_fld (pv 0) (pv 1) rfl)
      (pss_cons (ps_fld (pv 0) (pe_call G1 (hr.mono (by decide)) rfl g1 F1.kp b1 .nil pass0 (pa_cons (pv 1) pa_nil)) rfl)
      (pss_cons (ps_fld (pv 0) (pe_call G2 hr rfl g2 F2.kp b2 .nil pass0 (pa_cons (pe_fld (pv 0) rfl) pa_nil)) rfl)
      (pss_cons (ps_fld (pv 0) (pe_op op_sub (pe_callB call_len_seq (by rfl) (B "len" (by decide +kernel)) PySem.boot_len (pa_cons (pe_fld (pv 0) rfl) pa_nil)) pe_int) rfl)
      (pss_one (ps_fld (pv 0) (pe_call G3 (hr.mono (by decide)) rfl g3 F3.kp b3 .nil pass0 (pa_cons (pv 1) pa_nil)) rfl)))))), ?_⟩
    -- self.rings = rings
    refine ⟨_, rfl, _, rfl, p, C, dx, _, rfl, hp, T.cl, T.aR, (by show 0 < 1000; decide), ?_⟩
    rw [pf1]
    generalize hH1 : upd H p (.ins C dx [(("rings" : Str), V.ref a)]) = H1
    have q1 : H1 p = some (.ins C dx [(("rings" : Str), V.ref a)]) := by rw [← hH1, upd_same]
    have a1 : SqT K H1 a (r.map V.int) := by rw [← hH1]; exact sqt_ins ha hp
    have k1 : ∀ b o, H b = some o → b ≠ p → H1 b = some o := fun b o e n => by rw [← hH1, upd_ne n]; exact e
    -- self.order = common_order(rings)
    refine ⟨_, rfl, _, r, rfl, ⟨a, rfl, a1⟩, h14, fun H2 s2 => ?_⟩
    refine ⟨_, rfl, p, C, dx, _, rfl, s2 _ _ q1, T.cl, T.aO, (by show 1 < 1000; decide), ?_⟩
    rw [pf2]
    generalize hH3 : upd H2 p (.ins C dx [(("rings" : Str), V.ref a), ("order", .int (ordL r))]) = H3
    have q3 : H3 p = some (.ins C dx [(("rings" : Str), V.ref a), ("order", .int (ordL r))]) := by rw [← hH3, upd_same]
    have a3 : SqT K H3 a (r.map V.int) := by rw [← hH3]; exact sqt_ins (s2.tup a1) (s2 _ _ q1)
    have k3 : ∀ b o, H b = some o → b ≠ p → H3 b = some o := fun b o e n => by rw [← hH3, upd_ne n]; exact s2 _ _ (k1 b o e n)
    -- self.polynomial = polynomial_of(self.order)
    refine ⟨_, rfl, p, C, dx, _, _, rfl, q3, T.cl, T.aO, by rw [lk n1, lk0], ordL r, rfl, er_in r h14, fun po H4 s4 npo h4 => ?_⟩
    refine ⟨_, rfl, p, C, dx, _, rfl, s4 _ _ q3, T.cl, T.aP, (by show 2 < 1000; decide), ?_⟩
    rw [pf3]
    generalize hH5 : upd H4 p (.ins C dx [(("rings" : Str), V.ref a), ("order", .int (ordL r)), ("polynomial", .ref po)]) = H5
    have q5 : H5 p = some (.ins C dx [(("rings" : Str), V.ref a), ("order", .int (ordL r)), ("polynomial", .ref po)]) := by rw [← hH5, upd_same]
    have a5 : SqT K H5 a (r.map V.int) := by rw [← hH5]; exact sqt_ins (s4.tup a3) (s4 _ _ q3)
    have p5 : SqT K H5 po ((polyL (ordL r)).map V.int) := by rw [← hH5]; exact sqt_ins (SqT.of h4) (s4 _ _ q3)
    have k5 : ∀ b o, H b = some o → b ≠ p → H5 b = some o := fun b o e n => by rw [← hH5, upd_ne n]; exact s4 _ _ (k3 b o e n)
    -- self.degree = len(self.polynomial) - 1
    refine ⟨_, rfl, p, C, dx, _, _, rfl, q5, T.cl, T.aP, by rw [lk n2, lk n5, lk0], po, _, rfl, .inr p5, _, _, rfl, rfl, ?_⟩
    refine ⟨_, rfl, p, C, dx, _, rfl, q5, T.cl, T.aD, (by show 3 < 1000; decide), ?_⟩
    rw [pf4]
    generalize hd : ((((polyL (ordL r)).map V.int).length : Int) - 1) = d
    generalize hH6 : upd H5 p (.ins C dx [(("rings" : Str), V.ref a), ("order", .int (ordL r)), ("polynomial", .ref po), ("degree", .int d)]) = H6
    have q6 : H6 p = some (.ins C dx [(("rings" : Str), V.ref a), ("order", .int (ordL r)), ("polynomial", .ref po), ("degree", .int d)]) := by rw [← hH6, upd_same]
    have a6 : SqT K H6 a (r.map V.int) := by rw [← hH6]; exact sqt_ins a5 q5
    have p6 : SqT K H6 po ((polyL (ordL r)).map V.int) := by rw [← hH6]; exact sqt_ins p5 q5
    have k6 : ∀ b o, H b = some o → b ≠ p → H6 b = some o := fun b o e n => by rw [← hH6, upd_ne n]; exact k5 b o e n
    -- self.places = list_places(rings)
    refine ⟨_, rfl, _, r, rfl, ⟨a, rfl, a6⟩, h14, fun pl H7 s7 npl h7 => ?_⟩
    refine ⟨_, rfl, p, C, dx, _, rfl, s7 _ _ q6, T.cl, T.aL, (by show 4 < 1000; decide), ?_⟩
    rw [pf5]
    rw [List.length_map] at hd
    subst hd
    refine k _ ⟨dx, a, po, pl, upd_same, sqt_ins (s7.tup a6) (s7 _ _ q6), sqt_ins (s7.tup p6) (s7 _ _ q6), pll_ins h7 (s7 _ _ q6)⟩ fun b o e n => ?_
    rw [upd_ne n]
    exact s7 _ _ (k6 b o e n)
def spFPair (K : PySem.W.Frag) (C : Addr) : Sp := fun vs H Q _ => ∃ (p : Addr) (u z : V) (r x l : List Int), vs = [.ref p, u, z] ∧ FloorAt K C H p r ∧ TupI K H u x ∧ TupI K H z l ∧ r ∈ RR ∧ x ∈ placesL r ∧ l ∈ placesL r ∧ Q (.int (pairL r (ordL r) x l)) H
theorem scFP : FnScope ["self", "place", "label"] ["self", "place", "label"] (defScope sFPair) := ⟨rfl, rfl, rfl, by decide +kernel, rfl, by decide +kernel, by decide +kernel⟩
theorem ok_fPair (F : FunD K "pairing_of" "Floor.pairing_of" (defArgs sFPair) (defBody sFPair) (defScope sFPair) [] [] f fd) (B : Bl mg) (T : FlT K mg C fI fM) (F1 : FnP K "paired" sPaired f1 fd1) (g1 : mg "paired" = some (.ref f1)) : FnOk P w K mg base CX0 2 f fd ["self", "place", "label"] (spFPair K C) := by
  have G1 : FnOk P w K mg base CX0 1 f1 fd1 ["rings", "order", "place", "label"] (spPaired K) := ok_paired F1 B
  have b1 : Binds K fd1 ["rings", "order", "place", "label"] [] := F1.bindsN fun _ _ _ _ _ _ us hl => match us, hl with | [_, _, _, _], _ => rfl
  refine F.ok scFP (fun vs H Q E h => ?_) (fun cdv A outer s H vs Q E hr h => ?_)
  · obtain ⟨p, u, z, r, x, l, rfl, _⟩ := h
    rfl
  · obtain ⟨p, u, z, r, x, l, rfl, ⟨dx, a, po, pl, h1, h2, h3, h4⟩, hx, hl, h14, mx, ml, k⟩ := h
    refine ⟨_, PSs.nox (pss_one (ps_ret (pe_call G1 hr rfl g1 F1.kp b1 .nil pass0 (pa_cons (pe_fld (pv 0) rfl) (pa_cons (pe_fld (pv 0) rfl) (pa_cons (pv 1) (pa_cons (pv 2) pa_nil))))))), ?_⟩
    have eb := er_bd _ (er_in r h14)
    refine ⟨_, rfl, p, C, dx, _, _, rfl, h1, T.cl, T.aR, g_rings, _, rfl, p, C, dx, _, _, rfl, h1, T.cl, T.aO, g_order, _, rfl, _, rfl, ?_⟩
    exact ⟨_, _, _, r, x, l, ordL r, rfl, ⟨a, rfl, h2⟩, hx, hl, h14, rr_whole h14 mx, rr_whole h14 ml, rr_it r h14 x mx, rr_it r h14 l ml, by omega, by omega, k⟩
end
end K08

/-! Numbers: as values; lowered. -/
namespace K08
open PySem PySem.Spec PyProof.Rows L2
def NumAt (K : PySem.W.Frag) (H : Hp) (v : V) (n : Num) : Prop := ∃ p t, v = .ref p ∧ SqT K H p [.ref t, .int n.2] ∧ SqT K H t (n.1.map V.int)
theorem _root_.L2.Same.num {K : PySem.W.Frag} {H H' : Hp} {v : V} {n : Num} (e : Same H H') (h : NumAt K H v n) : NumAt K H' v n := by
  obtain ⟨p, t, rfl, h1, h2⟩ := h
  exact ⟨p, t, rfl, e.tup h1, e.tup h2⟩
def Nums (K : PySem.W.Frag) (H : Hp) (vs : List V) (ns : List Num) : Prop := vs.length = ns.length ∧ ∀ (i : Nat) v n, vs[i]? = some v → ns[i]? = some n → NumAt K H v n
theorem _root_.L2.Same.nums {K : PySem.W.Frag} {H H' : Hp} {vs : List V} {ns : List Num} (e : Same H H') (h : Nums K H vs ns) : Nums K H' vs ns := ⟨h.1, fun i v n e1 e2 => e.num (h.2 i v n e1 e2)⟩
theorem Nums.get {K : PySem.W.Frag} {H : Hp} {vs : List V} {ns : List Num} (h : Nums K H vs ns) {i : Nat} {v : V} (hi : vs[i]? = some v) : ∃ n, ns[i]? = some n ∧ NumAt K H v n := by
  have hl := ltL hi
  rw [h.1] at hl
  exact ⟨_, List.getElem?_eq_getElem hl, h.2 i v _ hi (List.getElem?_eq_getElem hl)⟩
theorem nums_nil {K : PySem.W.Frag} {H : Hp} : Nums K H [] [] := ⟨rfl, fun i v n e _ => by simp at e⟩
theorem Nums.snoc {K : PySem.W.Frag} {H : Hp} {vs : List V} {ns : List Num} {v : V} {n : Num} (h : Nums K H vs ns) (q : NumAt K H v n) : Nums K H (vs ++ [v]) (ns ++ [n]) := by
  refine ⟨by rw [List.length_append, List.length_append, h.1]; rfl, fun i v' n' e1 e2 => ?_⟩
  rcases Nat.lt_or_ge i vs.length with z | z
  · rw [List.getElem?_append_left z] at e1
    rw [List.getElem?_append_left (by rw [← h.1]; exact z)] at e2
    exact h.2 i v' n' e1 e2
  · have e := ltL e1
    rw [List.length_append] at e
    have e0 : i = vs.length := by simp at e; omega
    subst e0
    rw [List.getElem?_concat_length] at e1
    rw [h.1, List.getElem?_concat_length] at e2
    cases e1
    cases e2
    exact q
/-- a row: a tuple of numbers -/
def RowAt (K : PySem.W.Frag) (H : Hp) (v : V) (ns : List Num) : Prop := ∃ p vs, v = .ref p ∧ SqT K H p vs ∧ Nums K H vs ns
theorem _root_.L2.Same.row {K : PySem.W.Frag} {H H' : Hp} {v : V} {ns : List Num} (e : Same H H') (h : RowAt K H v ns) : RowAt K H' v ns := by
  obtain ⟨p, vs, rfl, h1, h2⟩ := h
  exact ⟨p, vs, rfl, e.tup h1, e.nums h2⟩
/-! ### lowered -/
theorem gcdI_bd {a b : Int} (h : 1 ≤ a) : 1 ≤ gcdI a b ∧ gcdI a b ≤ a := by
  unfold gcdI
  have h1 := Nat.gcd_pos_of_pos_left b.natAbs (show 0 < a.natAbs by omega)
  have h2 := Nat.gcd_le_left b.natAbs (show 0 < a.natAbs by omega)
  omega
theorem lowC_bd : ∀ (tops : List Int) (b : Int), 1 ≤ b → 1 ≤ lowC tops b ∧ lowC tops b ≤ b
  | [], b, h => ⟨h, Int.le_refl _⟩
  | t :: ts, b, h => by
    have g := gcdI_bd (b := t) h
    have r := lowC_bd ts (gcdI b t) g.1
    show 1 ≤ lowC ts (gcdI b t) ∧ lowC ts (gcdI b t) ≤ b
    omega
theorem pi_or {X : Cx} {tg e : Expr} {w1 w2 : TI} (h1 : PI X tg e w1) (h2 : PI X tg e w2) : PI X tg e (fun σ H R => w1 σ H R ∨ w2 σ H R) :=
  ⟨fun pins s σ H R I h => h.elim (fun q => h1.run pins s σ H R I q) (fun q => h2.run pins s σ H R I q)⟩
section
variable {P : Program} {w : World} {K : PySem.W.Frag} {mg : Str → Option Value} {base : Heap} {f f1 f2 f3 f4 f5 : Addr} {fd fd1 fd2 fd3 fd4 fd5 : FuncData}
def spLow (K : PySem.W.Frag) : Sp := fun vs H Q _ => ∃ (a : Addr) (tops : List Int) (b : Int), vs = [.ref a, .int b] ∧ (SqL K H a (tops.map V.int) ∨ SqT K H a (tops.map V.int)) ∧ 1 ≤ b ∧ b < 1073741824 ∧ tops.length ≤ 1000 ∧ ∀ v H', Same H H' → NumAt K H' v (lowL tops b) → Q v H'
theorem scLow : FnScope ["tops", "bottom", "common", "top"] ["tops", "bottom"] (defScope sLow) := ⟨rfl, rfl, rfl, by decide +kernel, rfl, by decide +kernel, by decide +kernel⟩
theorem ok_low (F : FnP K "lowered" sLow f fd) (B : Bl mg) (gG : mg "gcd" = some (.builtin "math.gcd")) : FnOk P w K mg base CX0 1 f fd ["tops", "bottom"] (spLow K) := by
  refine F.ok scLow (fun vs H Q E h => ?_) (fun cdv A outer s H vs Q E hr h => ?_)
  · obtain ⟨a, tops, b, rfl, _⟩ := h
    rfl
  · obtain ⟨a, tops, b, rfl, ha, b1, b2, hl, k⟩ := h
    refine ⟨_, PSs.nox (pss_cons (ps_set (i := 2) scLow.nd rfl (Or.inr rfl) (pe_callB call_abs (by rfl) (B "abs" (by decide +kernel)) (by decide +kernel) (pa_cons (pv 1) pa_nil)))
      (pss_cons (ps_for PassesOwn.never rfl (pi_or (pi_list (pv 0)) (pi_tup (pv 0))) (pg_name (i := 3) scLow.nd rfl (Or.inl rfl)) (pss_one (ps_set (i := 2) scLow.nd rfl (Or.inr rfl) (pe_callBfun cr_gcd rfl gG (pa_cons (pv 2) (pa_cons (pv 3) pa_nil))))))
      (pss_cons (ps_if (pt_cmpR op_lt (pv 1) pe_int (nomark _)) (pss_one (ps_set (i := 2) scLow.nd rfl (Or.inr rfl) (pe_un un_neg (pv 2)))) pss_nil)
      (pss_one (ps_ret (pe_tup (pa_cons (pe_callTy call_tuple_of (by rfl) (B "tuple" (by decide +kernel)) (by decide +kernel) (pa_cons
        (pe_lc (own := [("top", 3)]) (g := gName 3) (tt := tYes) (te := tOp rFdv (tVar 3) (tVar 2)) rfl scLow.nd (pi_or (pi_list (pv 0)) (pi_tup (pv 0))) (blkOk_by (own := [("top", 3)]) (N := ["tops", "bottom", "common", "top"]) (sc := defScope sLow) (by decide +kernel))
          (fun _ _ _ _ _ => pg_name (i := 3) scLow.nd rfl (Or.inl rfl)) (fun _ _ _ _ _ => pts_nil) (fun _ _ _ _ _ => pe_op op_fdiv (pv 3) (pv 2))) pa_nil)) (pa_cons (pe_op op_fdiv (pv 1) (pv 2)) pa_nil)))))))), ?_⟩
    refine ⟨_, rfl, b, rfl, ?_⟩
    rw [if_neg (show ¬ b < 0 by omega)]
    rcases ha with ha | ha
    · refine Or.inl ⟨_, rfl, a, rfl, ⟨_, ha⟩, for_list (K := K) (a := a) (xs := tops.map V.int) (fun i σ H2 => ∃ u, σ = [some (.ref a), some (.int b), some (.int (lowC (tops.take i) b)), u] ∧ H2 = H) ⟨none, rfl, rfl⟩ (fun i σ H2 _ ⟨_, _, e⟩ => by rw [e]; exact ha) ?_ ?_⟩
      · rintro i y σ H2 hi ⟨u, rfl, rfl⟩
        obtain ⟨t, rfl, ht⟩ := getI hi
        refine ⟨_, rfl, _, rfl, _, _, rfl, ?_⟩
        refine ⟨some (.int t), ?_, rfl⟩
        have e : lowC (tops.take (i + 1)) b = gcdI (lowC (tops.take i) b) t := by
          rw [takeS ht]
          unfold lowC
          rw [List.foldl_append]
          rfl
        rw [e]
        rfl
      · rintro σ H2 ⟨u, rfl, rfl⟩
        rw [List.length_map, List.take_length]
        have cb := lowC_bd tops b b1
        generalize hC : lowC tops b = C at cb
        refine ⟨_, rfl, _, _, rfl, rfl, _, rfl, ?_⟩
        refine ite2 (fun c => absurd (of_decide_eq_true c) (by omega)) fun _ => ?_
        refine Or.inl ⟨_, rfl, a, rfl, ⟨_, ha⟩, fun D hD => ?_⟩
        refine lc_list (K := K) (a := a) (xs := tops.map V.int) (fun i H3 => Same H2 H3 ∧ H3 D = some (.lst (((tops.take i).map fun t => t / C).map V.int))) ⟨same_upd hD, by rw [upd_same]; rfl⟩ (fun i H3 _ ⟨s3, _⟩ => s3.seq ha) ?_ ?_
        · rintro i y H3 hi ⟨s3, h3⟩
          obtain ⟨t, rfl, ht⟩ := getI hi
          refine ⟨rfl, _, rfl, _, rfl, _, _, rfl, rfl, ⟨by omega, by omega⟩, ?_⟩
          refine ⟨_, h3, sl_lt (by rw [List.length_map, List.length_map, List.length_take]; omega), same_at s3 hD, ?_⟩
          rw [upd_same, takeS ht, List.map_append, List.map_append]
          rfl
        · rintro H3 ⟨s3, h3⟩
          rw [List.length_map, List.take_length] at h3
          refine ⟨D, _, rfl, .inl ⟨SqL.of h3, fun t ht => ?_⟩⟩
          refine ⟨_, rfl, _, rfl, _, _, rfl, rfl, ⟨by omega, by omega⟩, by show 2 ≤ sizeLine; decide, fun p hp => ?_⟩
          have st := same_new (o := .tup ((tops.map fun t => t / C).map V.int)) s3 ht
          refine k _ _ (same_new st hp) ⟨p, t, rfl, ?_, ?_⟩
          · refine SqT.of ?_
            rw [upd_same]
            unfold lowL
            rw [hC]
          · unfold lowL
            rw [hC]
            exact (same_upd hp).tup (SqT.of upd_same)
    · refine Or.inr ⟨_, rfl, a, rfl, ⟨_, ha⟩, for_tup (K := K) (a := a) (xs := tops.map V.int) (fun i σ H2 => ∃ u, σ = [some (.ref a), some (.int b), some (.int (lowC (tops.take i) b)), u] ∧ H2 = H) ⟨none, rfl, rfl⟩ (fun i σ H2 _ ⟨_, _, e⟩ => by rw [e]; exact ha) ?_ ?_⟩
      · rintro i y σ H2 hi ⟨u, rfl, rfl⟩
        obtain ⟨t, rfl, ht⟩ := getI hi
        refine ⟨_, rfl, _, rfl, _, _, rfl, ?_⟩
        refine ⟨some (.int t), ?_, rfl⟩
        have e : lowC (tops.take (i + 1)) b = gcdI (lowC (tops.take i) b) t := by
          rw [takeS ht]
          unfold lowC
          rw [List.foldl_append]
          rfl
        rw [e]
        rfl
      · rintro σ H2 ⟨u, rfl, rfl⟩
        rw [List.length_map, List.take_length]
        have cb := lowC_bd tops b b1
        generalize hC : lowC tops b = C at cb
        refine ⟨_, rfl, _, _, rfl, rfl, _, rfl, ?_⟩
        refine ite2 (fun c => absurd (of_decide_eq_true c) (by omega)) fun _ => ?_
        refine Or.inr ⟨_, rfl, a, rfl, ⟨_, ha⟩, fun D hD => ?_⟩
        refine lc_tup (K := K) (a := a) (xs := tops.map V.int) (fun i H3 => Same H2 H3 ∧ H3 D = some (.lst (((tops.take i).map fun t => t / C).map V.int))) ⟨same_upd hD, by rw [upd_same]; rfl⟩ (fun i H3 _ ⟨s3, _⟩ => s3.tup ha) ?_ ?_
        · rintro i y H3 hi ⟨s3, h3⟩
          obtain ⟨t, rfl, ht⟩ := getI hi
          refine ⟨rfl, _, rfl, _, rfl, _, _, rfl, rfl, ⟨by omega, by omega⟩, ?_⟩
          refine ⟨_, h3, sl_lt (by rw [List.length_map, List.length_map, List.length_take]; omega), same_at s3 hD, ?_⟩
          rw [upd_same, takeS ht, List.map_append, List.map_append]
          rfl
        · rintro H3 ⟨s3, h3⟩
          rw [List.length_map, List.take_length] at h3
          refine ⟨D, _, rfl, .inl ⟨SqL.of h3, fun t ht => ?_⟩⟩
          refine ⟨_, rfl, _, rfl, _, _, rfl, rfl, ⟨by omega, by omega⟩, by show 2 ≤ sizeLine; decide, fun p hp => ?_⟩
          have st := same_new (o := .tup ((tops.map fun t => t / C).map V.int)) s3 ht
          refine k _ _ (same_new st hp) ⟨p, t, rfl, ?_, ?_⟩
          · refine SqT.of ?_
            rw [upd_same]
            unfold lowL
            rw [hC]
          · unfold lowL
            rw [hC]
            exact (same_upd hp).tup (SqT.of upd_same)
end
end K08

namespace K08
open PySem PySem.Spec PyProof.Rows L2
/-- a list of lists of ints -/
def TopsAt (H : Hp) (vs : List V) (tss : List (List Int)) : Prop := vs.length = tss.length ∧ ∀ (i : Nat) v ts, vs[i]? = some v → tss[i]? = some ts → ∃ t, v = .ref t ∧ H t = some (.lst (ts.map V.int))
theorem TopsAt.same {H H' : Hp} {vs : List V} {tss : List (List Int)} (h : TopsAt H vs tss) (s : Same H H') : TopsAt H' vs tss := ⟨h.1, fun i v ts e1 e2 => by
  obtain ⟨t, rfl, q⟩ := h.2 i v ts e1 e2
  exact ⟨t, rfl, s _ _ q⟩⟩
theorem TopsAt.up {H : Hp} {vs : List V} {tss : List (List Int)} {D : Addr} {o : HO} (h : TopsAt H vs tss) (hD : H D = some (.lst vs)) : TopsAt (upd H D o) vs tss := ⟨h.1, fun i v ts e1 e2 => by
  obtain ⟨t, rfl, q⟩ := h.2 i v ts e1 e2
  refine ⟨t, rfl, ?_⟩
  rw [upd_ne fun z => ?_]
  · exact q
  · rw [z, hD] at q
    have e := HO.lst.inj (Option.some.inj q)
    rw [e] at e1
    obtain ⟨c, hc, _⟩ := getI e1
    cases hc⟩
theorem TopsAt.snoc {H : Hp} {vs : List V} {tss : List (List Int)} {t : Addr} {ts : List Int} (h : TopsAt H vs tss) (q : H t = some (.lst (ts.map V.int))) : TopsAt H (vs ++ [.ref t]) (tss ++ [ts]) := by
  refine ⟨by rw [List.length_append, List.length_append, h.1]; rfl, fun i v' n' e1 e2 => ?_⟩
  rcases Nat.lt_or_ge i vs.length with z | z
  · rw [List.getElem?_append_left z] at e1
    rw [List.getElem?_append_left (by rw [← h.1]; exact z)] at e2
    exact h.2 i v' n' e1 e2
  · have e := ltL e1
    rw [List.length_append] at e
    have e0 : i = vs.length := by simp at e; omega
    subst e0
    rw [List.getElem?_concat_length] at e1
    rw [h.1, List.getElem?_concat_length] at e2
    cases e1
    cases e2
    exact ⟨t, rfl, q⟩
section
variable {P : Program} {w : World} {K : PySem.W.Frag} {mg : Str → Option Value} {base : Heap} {f f1 f2 f3 f4 f5 : Addr} {fd fd1 fd2 fd3 fd4 fd5 : FuncData}
def spLev (K : PySem.W.Frag) : Sp := fun vs H Q _ => ∃ (v : V) (ns : List Num), vs = [v] ∧ RowAt K H v ns ∧ ns.length ≤ 1000 ∧ (∀ n ∈ ns, 1 ≤ n.2 ∧ n.2 ≤ 1000 ∧ n.1.length ≤ 1000) ∧ (∀ i ≤ ns.length, 1 ≤ levB (ns.take i) ∧ levB (ns.take i) ≤ 1000) ∧ ∀ p t ts H', Same H H' → SqT K H' p [.ref t, .int (levB ns)] → H t = none → H' t = some (.lst ts) → TopsAt H' ts (levT ns) → Q (.ref p) H'
abbrev levN : List Str := ["numbers", "bottom", "_", "under", "tops", "top"]
def levSc : Scope := { kind := .function, names := [(".0", .local), ("tops", .local), ("under", .cell), ("bottom", .free)], isGenerator := false, isCoroutine := false }
theorem scLev : FnScope levN ["numbers"] (defScope sLev) := ⟨rfl, rfl, rfl, by decide +kernel, rfl, by decide +kernel, by decide +kernel⟩
theorem ok_lev (F : FnP K "levelled" sLev f fd) (B : Bl mg) (gL : mg "lcm" = some (.builtin "math.lcm")) : FnOk P w K mg base CX0 1 f fd ["numbers"] (spLev K) := by
  refine F.ok scLev (fun vs H Q E h => ?_) (fun cdv A outer s H vs Q E hr h => ?_)
  · obtain ⟨v, ns, rfl, _⟩ := h
    rfl
  · obtain ⟨v, ns, rfl, hR, hl, hb, hB, k⟩ := h
    refine ⟨_, PSs.nox (pss_cons (ps_set (i := 1) scLev.nd rfl (Or.inr rfl) pe_int)
      (pss_cons (ps_for PassesOwn.never rfl (pi_tup (pv 0)) (pg_tup rfl (pgs_cons (pg_name (i := 2) scLev.nd rfl (Or.inl rfl)) (pgs_cons (pg_name (i := 3) scLev.nd rfl (Or.inl rfl)) pgs_nil))) (pss_one (ps_set (i := 1) scLev.nd rfl (Or.inr rfl) (pe_callBfun cr_lcm rfl gL (pa_cons (pv 1) (pa_cons (pv 3) pa_nil))))))
      (pss_one (ps_ret (pe_tup (pa_cons
        (pe_lc (own := [("tops", 4), ("under", 3)]) (g := gTup K 2 (gCons (gName 4) (gCons (gName 3) gNil))) (tt := tYes)
          (te := tLc (iTup K (tVar 4)) (gName 5) tYes (tOp rMul (tVar 5) (tOp rFdv (tVar 1) (tVar 3))) [5]) rfl scLev.nd (pi_tup (pv 0)) (blkOk_by (own := [("tops", 4), ("under", 3)]) (N := levN) (sc := defScope sLev) (by decide +kernel))
          (fun _ _ _ _ _ => pg_tup rfl (pgs_cons (pg_name (i := 4) scLev.nd rfl (Or.inl rfl)) (pgs_cons (pg_name (i := 3) scLev.nd rfl (Or.inr rfl)) pgs_nil))) (fun _ _ _ _ _ => pts_nil)
          (fun _ _ _ _ _ => pe_lc (own := [("top", 5)]) (g := gName 5) (tt := tYes) (te := tOp rMul (tVar 5) (tOp rFdv (tVar 1) (tVar 3))) rfl scLev.nd (pi_tup (pv 4)) (blkOk_by (own := [("top", 5)]) (N := levN) (sc := relS levSc (defScope sLev)) (by decide +kernel))
            (fun _ _ _ _ _ => pg_name (i := 5) scLev.nd rfl (Or.inl rfl)) (fun _ _ _ _ _ => pts_nil) (fun _ _ _ _ _ => pe_op op_mul (pv 5) (pe_op op_fdiv (pv 1) (pv 3))))) (pa_cons (pv 1) pa_nil))))))), ?_⟩
    obtain ⟨a, vs, rfl, ha, hN⟩ := hR
    have hvl := hN.1
    refine ⟨_, rfl, a, rfl, ⟨_, ha⟩, for_tup (K := K) (a := a) (xs := vs) (fun i σ H2 => ∃ u2 u3, σ = [some (.ref a), some (.int (levB (ns.take i))), u2, u3, none, none] ∧ H2 = H) ⟨none, none, rfl, rfl⟩ (fun i σ H2 _ ⟨_, _, _, e⟩ => by rw [e]; exact ha) ?_ ?_⟩
    · rintro i y σ H2 hi ⟨u2, u3, rfl, rfl⟩
      obtain ⟨n, hn, p, t, rfl, hp, ht⟩ := hN.get hi
      have b0 := hB i (by have := ltL hn; omega)
      have b1 := hB (i + 1) (by have := ltL hn; omega)
      have bn := hb n (List.mem_of_getElem? hn)
      have e : levB (ns.take (i + 1)) = lcmI (levB (ns.take i)) n.2 := by
        rw [takeS hn]
        unfold levB
        rw [List.foldl_append]
        rfl
      refine ⟨p, _, rfl, hp, rfl, _, _, rfl, _, _, rfl, rfl, ?_⟩
      refine ⟨_, rfl, _, rfl, _, _, rfl, by omega, by omega, by rw [← e]; omega, ?_⟩
      refine ⟨some (.ref t), some (.int n.2), ?_, rfl⟩
      rw [e]
      rfl
    · rintro σ H2 ⟨u2, u3, rfl, rfl⟩
      rw [hvl, List.take_length]
      have bB := hB ns.length (Nat.le_refl _)
      rw [List.take_length] at bB
      generalize hBB : levB ns = BB at bB
      refine ⟨_, rfl, a, rfl, ⟨_, ha⟩, fun D hD => ?_⟩
      refine lc_tup (K := K) (a := a) (xs := vs) (fun i H3 => Same H2 H3 ∧ ∃ ts, H3 D = some (.lst ts) ∧ TopsAt H3 ts ((ns.take i).map fun n => n.1.map fun t => t * (BB / n.2))) ⟨same_upd hD, [], upd_same, rfl, fun i v ts e _ => by simp at e⟩ (fun i H3 _ ⟨s3, _⟩ => s3.tup ha) ?_ ?_
      · rintro i y H3 hi ⟨s3, ts, h3, tt⟩
        obtain ⟨n, hn, p, t, rfl, hp, ht⟩ := hN.get hi
        have bn := hb n (List.mem_of_getElem? hn)
        refine ⟨p, _, rfl, s3.tup hp, rfl, _, _, rfl, _, _, rfl, rfl, rfl, _, rfl, t, rfl, ⟨_, s3.tup ht⟩, fun D2 hD2 => ?_⟩
        have nD2 : D ≠ D2 := ne_of_none h3 hD2
        refine lc_tup (K := K) (a := t) (xs := n.1.map V.int) (fun j H4 => Same H3 H4 ∧ H4 D2 = some (.lst (((n.1.take j).map fun t => t * (BB / n.2)).map V.int))) ⟨same_upd hD2, by rw [upd_same]; rfl⟩ (fun j H4 _ ⟨s4, _⟩ => s4.tup (s3.tup ht)) ?_ ?_
        · rintro j y2 H4 hj ⟨s4, h4⟩
          obtain ⟨c, rfl, hc⟩ := getI hj
          have q1 : 0 ≤ BB / n.2 := Int.ediv_nonneg (by omega) (by omega)
          have q2 : BB / n.2 ≤ BB := Int.ediv_le_self _ (by omega)
          refine ⟨rfl, _, rfl, _, rfl, _, rfl, _, _, rfl, rfl, ⟨by omega, by omega⟩, _, _, rfl, rfl, Or.inr ⟨by omega, by omega⟩, ?_⟩
          refine ⟨_, h4, sl_lt (by rw [List.length_map, List.length_map, List.length_take]; omega), same_at s4 hD2, ?_⟩
          rw [upd_same, takeS hc, List.map_append, List.map_append]
          rfl
        · rintro H4 ⟨s4, h4⟩
          rw [List.length_map, List.take_length] at h4
          refine ⟨ts, s4 _ _ h3, ?_, same_at (s3.trans s4) hD, _, upd_same, ?_⟩
          · have := tt.1
            rw [List.length_map, List.length_take] at this
            exact sl_lt (by omega)
          · rw [takeS hn, List.map_append]
            have h5 : upd H4 D (.lst (ts ++ [.ref D2])) D2 = some (.lst ((n.1.map fun t => t * (BB / n.2)).map V.int)) := by rw [upd_ne nD2.symm]; exact h4
            exact ((tt.same s4).up (s4 _ _ h3)).snoc h5
      · rintro H3 ⟨s3, ts, h3, tt⟩
        rw [hvl, List.take_length] at tt
        refine ⟨_, rfl, by show 2 ≤ sizeLine; decide, fun p hp => ?_⟩
        have sp : Same H3 (upd H3 p (.tup [.ref D, .int BB])) := same_upd hp
        refine k p D ts _ (s3.trans sp) ?_ hD (sp _ _ h3) ?_
        · rw [hBB]
          exact SqT.of upd_same
        · unfold levT
          rw [hBB]
          exact tt.same sp
end
end K08

/-! Sums of turns. -/
namespace K08
open PySem PySem.Spec PyProof.Rows L2
theorem addN_len (e p : Int) (tops tot : List Int) : ∀ k, (addN e p tops tot k).length = tot.length
  | 0 => rfl
  | k + 1 => by
    show (List.set _ _ _).length = tot.length
    rw [List.length_set, addN_len e p tops tot k]
theorem tsGo_len (r : List Int) (e sg : Int) (label : List Int) (items : List (List Int)) : ∀ i, (tsGo r e sg label items i).length = e.toNat
  | 0 => by simp [tsGo]
  | i + 1 => by
    show (addN _ _ _ _ _).length = _
    rw [addN_len, tsGo_len r e sg label items i]
theorem pair_bd (r : List Int) {e : Int} (he : 0 < e) (x q : List Int) : 0 ≤ pairL r e x q ∧ pairL r e x q < e := ⟨Int.emod_nonneg _ (by omega), Int.emod_lt_of_pos _ he⟩
theorem er_poly : ∀ e ∈ ER, 2 ≤ (polyL e).length ∧ (polyL e).length ≤ e.toNat ∧ ∀ d ∈ polyL e, -1000 ≤ d ∧ d ≤ 1000 := by decide +kernel
theorem rr_pl0 : ∀ r ∈ RR, (placesL r).length ≤ 16 := by decide +kernel
section
variable {P : Program} {w : World} {K : PySem.W.Frag} {mg : Str → Option Value} {base : Heap} {f f1 f2 f3 f4 f5 C fI fM : Addr} {fd fd1 fd2 fd3 fd4 fd5 fdM : FuncData}
def spTS (K : PySem.W.Frag) (C : Addr) : Sp := fun vs H Q _ => ∃ (p ti tp : Addr) (u : V) (its : List V) (r x : List Int) (tss : List (List Int)) (sg : Int), vs = [.ref p, .ref ti, .ref tp, u, .int sg] ∧ -1 ≤ sg ∧ sg ≤ 1 ∧ FloorAt K C H p r ∧ SqL K H ti its ∧ TopsAt H its tss ∧ PlL K H tp (placesL r) ∧ TupI K H u x ∧ x ∈ placesL r ∧ r ∈ RR ∧ tss.length = (placesL r).length ∧ (∀ ts ∈ tss, ts.length ≤ 1000) ∧
  ∀ t H', Same H H' → H t = none → H' t = some (.tup ((tsL r sg x tss).map V.int)) → Q (.ref t) H'
abbrev tsN : List Str := ["floor", "items", "places", "label", "sign", "total", "tops", "place", "power", "k", "top"]
theorem scTS : FnScope tsN ["floor", "items", "places", "label", "sign"] (defScope sTSum) := ⟨rfl, rfl, rfl, by decide +kernel, rfl, by decide +kernel, by decide +kernel⟩
theorem ok_tsum (F : FnP K "turned_sum" sTSum f fd) (B : Bl mg) (T : FlT K mg C fI fM) (FM : FunD K "pairing_of" "Floor.pairing_of" (defArgs sFPair) (defBody sFPair) (defScope sFPair) [] [] fM fdM) (GM : FnOk P w K mg base CX0 2 fM fdM ["self", "place", "label"] (spFPair K C))
    (F1 : FnP K "reduced" sRed f1 fd1) (g1 : mg "reduced" = some (.ref f1)) (G1 : FnOk P w K mg base CX0 2 f1 fd1 ["items", "polynomial"] (spRed K)) : FnOk P w K mg base CX0 3 f fd ["floor", "items", "places", "label", "sign"] (spTS K C) := by
  have bM : Binds K fdM ["self", "place", "label"] [] := FM.bindsN fun _ _ _ _ _ _ us hl => match us, hl with | [_, _, _], _ => rfl
  have b1 : Binds K fd1 ["items", "polynomial"] [] := F1.bindsN fun _ _ _ _ _ _ us hl => match us, hl with | [_, _], _ => rfl
  refine F.ok scTS (fun vs H Q E h => ?_) (fun cdv A outer s H vs Q E hr h => ?_)
  · obtain ⟨p, ti, tp, u, its, r, x, tss, sg, rfl, _⟩ := h
    rfl
  · obtain ⟨p, ti, tp, u, its, r, x, tss, sg, rfl, sg1, sg2, hF, hti, tt, hpl, ⟨c, rfl, hc⟩, hx, h14, hlen, few, k⟩ := h
    refine ⟨_, PSs.nox (pss_cons (ps_set (i := 5) scTS.nd rfl (Or.inl rfl) (pe_op op_rep (pe_lst (pa_cons pe_int pa_nil)) (pe_fld (pv 0) rfl)))
      (pss_cons (ps_for PassesOwn.never rfl (RZ.pi_zipA rfl (B "zip" (by decide +kernel)) (pa_cons (pv 1) (pa_cons (pv 2) pa_nil))) (pg_tup rfl (pgs_cons (pg_name (i := 6) scTS.nd rfl (Or.inl rfl)) (pgs_cons (pg_name (i := 7) scTS.nd rfl (Or.inl rfl)) pgs_nil)))
        (pss_cons (ps_set (i := 8) scTS.nd rfl (Or.inl rfl) (pe_op op_mul (pv 4) (pe_meth (pv 0) T.cl T.mt GM hr bM .nil pass0 (pa_cons (pv 7) (pa_cons (pv 3) pa_nil)))))
        (pss_one (ps_for PassesOwn.never rfl (pi_enum (by rfl) (B "enumerate" (by decide +kernel)) (pa_cons (pv 6) pa_nil)) (pg_tup rfl (pgs_cons (pg_name (i := 9) scTS.nd rfl (Or.inl rfl)) (pgs_cons (pg_name (i := 10) scTS.nd rfl (Or.inl rfl)) pgs_nil)))
          (pss_one (ps_augS (pv 5) (pe_op op_mod (pe_op op_add (pv 8) (pv 9)) (pe_fld (pv 0) rfl)) get_list (pv 10) ip_add set_list))))))
      (pss_one (ps_ret (pe_call G1 hr rfl g1 F1.kp b1 .nil pass0 (pa_cons (pv 5) (pa_cons (pe_fld (pv 0) rfl) pa_nil))))))), ?_⟩
    have eb := er_bd _ (er_in r h14)
    have ep := er_poly _ (er_in r h14)
    obtain ⟨dx, ar, po, pl, h1, h2, h3, h4⟩ := id hF
    obtain ⟨kp, hk1, hk2, hk3⟩ := hpl
    refine ⟨by show 1 ≤ sizeLine; decide, fun z hz => ?_⟩
    have sz : Same H (upd H z (.lst [.int 0])) := same_upd hz
    refine ⟨_, rfl, p, C, dx, _, _, rfl, sz _ _ h1, T.cl, T.aO, g_order, z, _, _, rfl, rfl, upd_same, by omega, by omega, sl_1000 (by simp; omega), fun D hD => ?_⟩
    rw [rep_flat]
    have nD : H D = none := sz.free hD
    have s1 : Same H (upd (upd H z (.lst [.int 0])) D (.lst (List.replicate (ordL r).toNat (V.int 0)))) := same_new sz hD
    have hkl : (rf kp).length = (placesL r).length := by rw [← hk2, List.length_map, List.length_map]
    have hil : its.length = (rf kp).length := by rw [tt.1, hlen, hkl]
    refine ⟨_, rfl, _, rfl, ti, tp, its, rf kp, rfl, .inl ⟨s1.seq hti, SqL.of (s1 _ _ hk1), ?_⟩⟩
    refine RZ.for_zipL (K := K) (a := ti) (b := tp) (xs := its) (ys := rf kp) hil (fun i σ H2 => ∃ y6 y7 y8 y9 y10, σ = [some (.ref p), some (.ref ti), some (.ref tp), some (.ref c), some (.int sg), some (.ref D), y6, y7, y8, y9, y10] ∧ Same H H2 ∧ H2 D = some (.lst ((tsGo r (ordL r) sg x tss i).map V.int))) ⟨none, none, none, none, none, rfl, s1, ?_⟩ (fun i σ H2 ⟨_, _, _, _, _, _, s2, _⟩ => ⟨s2.seq hti, SqL.of (s2 _ _ hk1)⟩) ?_ ?_
    · rw [upd_same]
      simp [tsGo]
    · rintro i y1 y2 Tt σ H2 e1 e2 ⟨y6, y7, y8, y9, y10, rfl, s2, h2'⟩ hT
      have il : i < tss.length := by rw [← tt.1]; exact ltL e1
      have ets := List.getElem?_eq_getElem il
      generalize tss[i] = ts at ets
      obtain ⟨tA, rfl, htA⟩ := tt.2 i y1 ts e1 ets
      obtain ⟨q, rfl, hq⟩ := getR e2
      have hqm := List.mem_of_getElem? hq
      have hq2 : (placesL r)[i]? = some q.2 := by rw [← hk2, List.getElem?_map, hq]; rfl
      have hqp : q.2 ∈ placesL r := List.mem_of_getElem? hq2
      have htm : ts ∈ tss := List.mem_of_getElem? ets
      have bd := pair_bd r (e := ordL r) (by omega) q.2 x
      have s3 : Same H (upd H2 Tt (.tup [.ref tA, .ref q.1])) := same_new s2 hT
      have h3' : upd H2 Tt (.tup [.ref tA, .ref q.1]) D = some (.lst ((tsGo r (ordL r) sg x tss i).map V.int)) := by rw [upd_ne (ne_of_none h2' hT)]; exact h2'
      refine ⟨Tt, _, rfl, SqT.of upd_same, rfl, _, _, rfl, _, _, rfl, rfl, ?_⟩
      refine ⟨_, rfl, _, rfl, p, dx, _, rfl, s3 _ _ h1, g_no, _, rfl, _, rfl, p, _, _, r, q.2, x, rfl, s3.floor hF, ⟨q.1, rfl, s3.tup (hk3 q hqm)⟩, ⟨c, rfl, s3.tup hc⟩, h14, hqp, hx, _, _, rfl, rfl, Or.inl ⟨by omega, by omega⟩, ?_⟩
      generalize hH3 : upd H2 Tt (.tup [.ref tA, .ref q.1]) = H3 at s3 h3'
      refine ⟨_, rfl, tA, ts.map V.int, rfl, SqL.of (s3 _ _ htA), ?_⟩
      generalize hPP : sg * pairL r (ordL r) q.2 x = PP
      have gl := tsGo_len r (ordL r) sg x tss i
      refine for_it (walk_enum (K := K) (a := tA) (xs := ts.map V.int)) (fun j σ H4 => ∃ y9 y10, σ = [some (.ref p), some (.ref ti), some (.ref tp), some (.ref c), some (.int sg), some (.ref D), some (.ref tA), some (.ref q.1), some (.int PP), y9, y10] ∧ Same H H4 ∧ H4 D = some (.lst ((addN (ordL r) PP ts (tsGo r (ordL r) sg x tss i) j).map V.int))) ⟨y9, y10, by rw [← hPP]; rfl, s3, h3'⟩ (fun j σ H4 _ ⟨_, _, _, s4, _⟩ => SqL.of (s4 _ _ htA)) ?_ ?_
      · rintro j v σ H4 H5 hj ⟨y9', y10', rfl, s4, h4'⟩ ⟨T5, c5, y5, rfl, hT5, rfl, ec, ey⟩
        obtain ⟨tv, rfl, htv⟩ := getI ey
        obtain rfl := Option.some.inj ec
        have s5 : Same H (upd H4 T5 (.tup [.int (j : Int), .int tv])) := same_new s4 hT5
        have h5 : upd H4 T5 (.tup [.int (j : Int), .int tv]) D = some (.lst ((addN (ordL r) PP ts (tsGo r (ordL r) sg x tss i) j).map V.int)) := by rw [upd_ne (ne_of_none h4' hT5)]; exact h4'
        have al := addN_len (ordL r) PP ts (tsGo r (ordL r) sg x tss i) j
        have m0 := Int.emod_nonneg (PP + (j : Int)) (show ordL r ≠ 0 by omega)
        have m1 := Int.emod_lt_of_pos (PP + (j : Int)) (show 0 < ordL r by omega)
        obtain ⟨n, hn⟩ := Int.eq_ofNat_of_zero_le m0
        refine ⟨T5, _, rfl, SqT.of upd_same, rfl, _, _, rfl, _, _, rfl, rfl, ?_⟩
        refine ⟨_, rfl, _, rfl, _, rfl, _, _, rfl, rfl, _, rfl, p, C, dx, _, _, rfl, s5 _ _ h1, T.cl, T.aO, g_order, _, _, rfl, rfl, by omega, ?_⟩
        refine ⟨D, _, n, _, rfl, congrArg V.int hn, SqL.of h5, getD_of (by rw [al]; omega), _, rfl, _, _, rfl, rfl, D, _, _, n, rfl, rfl, h5, ?_, some (.int (j : Int)), some (.int tv), rfl, same_at s5 nD, ?_⟩
        · rw [hn, List.length_map, al]
          exact ixN_nat (by omega)
        · rw [upd_same]
          show _ = some (HO.lst ((stepT (ordL r) (addN (ordL r) PP ts (tsGo r (ordL r) sg x tss i) j) (PP + (j : Int)) (ts.getD j 0)).map V.int))
          have e5 : ts.getD j 0 = tv := by rw [List.getD_eq_getElem?_getD, htv]; rfl
          unfold stepT
          rw [e5, hn, Int.toNat_natCast, List.map_set]
      · rintro σ H4 ⟨y9', y10', rfl, s4, h4'⟩
        refine ⟨_, _, _, _, _, rfl, s4, ?_⟩
        rw [h4', List.length_map]
        have e3 : (placesL r).getD i [] = q.2 := by rw [List.getD_eq_getElem?_getD, hq2]; rfl
        have e4 : tss.getD i [] = ts := by rw [List.getD_eq_getElem?_getD, ets]; rfl
        show _ = some (HO.lst ((addN (ordL r) (sg * pairL r (ordL r) ((placesL r).getD i []) x) (tss.getD i []) (tsGo r (ordL r) sg x tss i) (tss.getD i []).length).map V.int))
        rw [e3, e4, hPP]
    · rintro σ H2 ⟨y6, y7, y8, y9, y10, rfl, s2, h2'⟩
      have ts := tsGo_len r (ordL r) sg x tss its.length
      have etl : its.length = tss.length := tt.1
      refine ⟨_, rfl, _, rfl, p, C, dx, _, _, rfl, s2 _ _ h1, T.cl, T.aP, g_poly, D, po, _, _, rfl, SqL.of h2', s2.tup h3, ep.1, by omega, by omega, ep.2.2, fun t H3 s3 nt h4 => ?_⟩
      refine k t H3 (s2.trans s3) (s2.free nt) ?_
      rw [h4, etl]
      rfl
end
end K08

namespace K08
open PySem PySem.Spec PyProof.Rows L2
/-- numbers of a row whose least common bottom stays small -/
theorem tsL_len {r : List Int} (h : r ∈ RR) (sg : Int) (x : List Int) (tss : List (List Int)) : (tsL r sg x tss).length ≤ 1000 := by
  have ep := er_poly _ (er_in r h)
  have eb := er_bd _ (er_in r h)
  unfold tsL redL
  have := divL_len (xs := tsGo r (ordL r) sg x tss tss.length) (dv := polyL (ordL r)) (by omega) (by rw [tsGo_len]; exact ep.2.1)
  rw [List.length_append, List.length_replicate]
  omega
section
variable {P : Program} {w : World} {K : PySem.W.Frag} {mg : Str → Option Value} {base : Heap} {f f1 f2 f3 f4 f5 C fI fM : Addr} {fd fd1 fd2 fd3 fd4 fd5 fdM : FuncData}
def spVO (K : PySem.W.Frag) (C : Addr) : Sp := fun vs H Q _ => ∃ (p : Addr) (v : V) (r : List Int) (ns : List Num), vs = [.ref p, v] ∧ FloorAt K C H p r ∧ RowAt K H v ns ∧ r ∈ RR ∧ RowOk r ns ∧ ∀ v' H', Same H H' → RowAt K H' v' (voL r ns) → Q v' H'
abbrev voN : List Str := ["floor", "row", "items", "bottom", "sums", "label", "tops"]
theorem scVO : FnScope voN ["floor", "row"] (defScope sVOf) := ⟨rfl, rfl, rfl, by decide +kernel, rfl, by decide +kernel, by decide +kernel⟩
theorem ok_vof (F : FnP K "voices_of" sVOf f fd) (B : Bl mg) (T : FlT K mg C fI fM)
    (F1 : FnP K "levelled" sLev f1 fd1) (g1 : mg "levelled" = some (.ref f1)) (G1 : FnOk P w K mg base CX0 1 f1 fd1 ["numbers"] (spLev K))
    (F2 : FnP K "turned_sum" sTSum f2 fd2) (g2 : mg "turned_sum" = some (.ref f2)) (G2 : FnOk P w K mg base CX0 3 f2 fd2 ["floor", "items", "places", "label", "sign"] (spTS K C))
    (F3 : FnP K "lowered" sLow f3 fd3) (g3 : mg "lowered" = some (.ref f3)) (G3 : FnOk P w K mg base CX0 1 f3 fd3 ["tops", "bottom"] (spLow K)) :
    FnOk P w K mg base CX0 4 f fd ["floor", "row"] (spVO K C) := by
  have b1 : Binds K fd1 ["numbers"] [] := F1.bindsN fun _ _ _ _ _ _ us hl => match us, hl with | [_], _ => rfl
  have b2 : Binds K fd2 ["floor", "items", "places", "label", "sign"] [] := F2.bindsN fun _ _ _ _ _ _ us hl => match us, hl with | [_, _, _, _, _], _ => rfl
  have b3 : Binds K fd3 ["tops", "bottom"] [] := F3.bindsN fun _ _ _ _ _ _ us hl => match us, hl with | [_, _], _ => rfl
  refine F.ok scVO (fun vs H Q E h => ?_) (fun cdv A outer s H vs Q E hr h => ?_)
  · obtain ⟨p, v, r, ns, rfl, _⟩ := h
    rfl
  · obtain ⟨p, v, r, ns, rfl, hF, hR, h14, ro, k⟩ := h
    refine ⟨_, PSs.nox (pss_cons (ps_asg (pe_call G1 (hr.mono (by decide)) rfl g1 F1.kp b1 .nil pass0 (pa_cons (pv 1) pa_nil)) (pg_tup rfl (pgs_cons (pg_name (i := 2) scVO.nd rfl (Or.inr rfl)) (pgs_cons (pg_name (i := 3) scVO.nd rfl (Or.inr rfl)) pgs_nil))))
      (pss_cons (ps_setLc (i := 4) (own := [("label", 5)]) (g := gName 5) (tt := tYes) (te := tCall (spTS K C) [] E0 (tCons (tVar 0) (tCons (tVar 2) (tCons (tFld K (tVar 0) "places") (tCons (tVar 5) (tCons (tC (.int 1)) tNil)))))) rfl scVO.nd rfl rfl (sw_true rfl rfl rfl (by decide +kernel)) (pi_list (pe_fld (pv 0) rfl)) (blkOk_by (own := [("label", 5)]) (N := voN) (sc := defScope sVOf) (by decide +kernel))
          (fun _ _ _ _ _ => pg_name (i := 5) scVO.nd rfl (Or.inl rfl)) (fun _ _ _ _ _ => pts_nil)
          (fun _ _ _ _ _ => pe_call G2 hr rfl g2 F2.kp b2 .nil pass0 (pa_cons (pv 0) (pa_cons (pv 2) (pa_cons (pe_fld (pv 0) rfl) (pa_cons (pv 5) (pa_cons pe_int pa_nil)))))))
      (pss_one (ps_ret (pe_callTy call_tuple_of (by rfl) (B "tuple" (by decide +kernel)) (by decide +kernel) (pa_cons
        (pe_lc (own := [("tops", 6)]) (g := gName 6) (tt := tYes) (te := tCall (spLow K) [] E0 (tCons (tVar 6) (tCons (tVar 3) tNil))) rfl scVO.nd (pi_list (pv 4)) (blkOk_by (own := [("tops", 6)]) (N := voN) (sc := defScope sVOf) (by decide +kernel))
          (fun _ _ _ _ _ => pg_name (i := 6) scVO.nd rfl (Or.inl rfl)) (fun _ _ _ _ _ => pts_nil)
          (fun _ _ _ _ _ => pe_call G3 (hr.mono (by decide)) rfl g3 F3.kp b3 .nil pass0 (pa_cons (pv 6) (pa_cons (pv 3) pa_nil)))) pa_nil)))))), ?_⟩
    obtain ⟨dx, ar, po, pl, h1, h2, h3, h4⟩ := id hF
    obtain ⟨kp, hk1, hk2, hk3⟩ := id h4
    have eb := er_bd _ (er_in r h14)
    have hr16 := rr_pl0 r h14
    have bB := ro.lev ns.length (Nat.le_refl _)
    rw [List.take_length] at bB
    have hns := ro.len
    refine ⟨_, rfl, v, ns, rfl, hR, by omega, ro.item, ro.lev, fun pt t ts H1 s1 hpt nt ht tt => ?_⟩
    refine ⟨pt, _, rfl, hpt, rfl, _, _, rfl, _, _, rfl, rfl, ?_⟩
    have s1f := s1 _ _ h1
    refine ⟨_, rfl, p, C, dx, _, _, rfl, s1f, T.cl, T.aL, g_places, pl, rfl, ⟨_, SqL.of (s1 _ _ hk1)⟩, fun D hD => ?_⟩
    have hkl : (rf kp).length = (placesL r).length := by rw [← hk2, List.length_map, List.length_map]
    have sD : Same H1 (upd H1 D (.lst [])) := same_upd hD
    have few : ∀ ts ∈ levT ns, ts.length ≤ 1000 := fun ts hts => by
      unfold levT at hts
      obtain ⟨n, hn, rfl⟩ := List.mem_map.mp hts
      rw [List.length_map]
      exact (ro.item n hn).2.2
    have lvl : (levT ns).length = (placesL r).length := by
      unfold levT
      rw [List.length_map, ro.len]
    refine lc_list (K := K) (a := pl) (xs := rf kp) (fun i H2 => Same H1 H2 ∧ ∃ ks, H2 D = some (.lst (rf ks)) ∧ TL K H2 ks ∧ ks.map (·.2) = ((placesL r).take i).map fun l => tsL r 1 l (levT ns)) ⟨sD, [], upd_same, tl_nil, rfl⟩ (fun i H2 _ ⟨s2, _⟩ => SqL.of (s2 _ _ (s1 _ _ hk1))) ?_ ?_
    · rintro i y H2 hi ⟨s2, ks, hD2, tk, ek⟩
      obtain ⟨q, rfl, hq⟩ := getR hi
      have hqm := List.mem_of_getElem? hq
      have hq2 : (placesL r)[i]? = some q.2 := by rw [← hk2, List.getElem?_map, hq]; rfl
      have hqp : q.2 ∈ placesL r := List.mem_of_getElem? hq2
      have s12 := s1.trans s2
      refine ⟨rfl, _, rfl, _, rfl, _, rfl, p, C, dx, _, _, rfl, s12 _ _ h1, T.cl, T.aL, g_places, _, rfl, p, t, pl, .ref q.1, ts, r, q.2, levT ns, 1, rfl, by decide, by decide, s12.floor hF, SqL.of (s2 _ _ ht), tt.same s2, s12.pll h4, ⟨q.1, rfl, s12.tup (hk3 q hqm)⟩, hqp, h14, lvl, few, fun t2 H3 s3 nt2 ht2 => ?_⟩
      have kl : ks.length = ((placesL r).take i).length := by
        have := congrArg List.length ek
        rw [List.length_map, List.length_map] at this
        exact this
      refine ⟨_, s3 _ _ hD2, sl_lt (by rw [List.length_map, kl, List.length_take]; omega), same_at (s2.trans s3) hD, ks ++ [(t2, tsL r 1 q.2 (levT ns))], ?_, ?_, ?_⟩
      · rw [upd_same, rf_snoc]
      · exact tl_at (tl_snoc (s3.tl tk) (SqT.of ht2)) (s3 _ _ hD2)
      · rw [List.map_append, ek, takeS hq2, List.map_append]
        rfl
    · rintro H2 ⟨s2, ks, hD2, tk, ek⟩
      rw [hkl, List.take_length] at ek
      have s12 := s1.trans s2
      refine ⟨_, rfl, D, rfl, ⟨_, SqL.of hD2⟩, fun D3 hD3 => ?_⟩
      have kl : ks.length = (placesL r).length := by
        have := congrArg List.length ek
        rw [List.length_map, List.length_map] at this
        exact this
      refine lc_list (K := K) (a := D) (xs := rf ks) (fun i H3 => Same H2 H3 ∧ ∃ us, H3 D3 = some (.lst us) ∧ Nums K H3 us ((voL r ns).take i)) ⟨same_upd hD3, [], upd_same, by rw [List.take_zero]; exact nums_nil⟩ (fun i H3 _ ⟨s3, _⟩ => SqL.of (s3 _ _ hD2)) ?_ ?_
      · rintro i y H3 hi ⟨s3, us, h3', tn⟩
        obtain ⟨q, rfl, hq⟩ := getR hi
        have hqm := List.mem_of_getElem? hq
        have eq2 : ∃ l, (placesL r)[i]? = some l ∧ q.2 = tsL r 1 l (levT ns) := by
          have e : (ks.map (·.2))[i]? = some q.2 := by rw [List.getElem?_map, hq]; rfl
          rw [ek, List.getElem?_map] at e
          cases hl : (placesL r)[i]? with
          | none =>
            rw [hl] at e
            cases e
          | some l =>
            rw [hl] at e
            exact ⟨l, rfl, (Option.some.inj e).symm⟩
        obtain ⟨l, hl, el⟩ := eq2
        refine ⟨rfl, _, rfl, _, rfl, q.1, q.2, levB ns, rfl, .inr (s3.tup (tk q hqm)), by omega, by omega, by rw [el]; exact tsL_len h14 _ _ _, fun v2 H4 s4 hv2 => ?_⟩
        have ev : (voL r ns)[i]? = some (lowL q.2 (levB ns)) := by
          unfold voL
          rw [List.getElem?_map, hl, el]
          rfl
        have ul := tn.1
        rw [List.length_take] at ul
        refine ⟨us, s4 _ _ h3', sl_lt (by have := ltL hq; omega), same_at (s3.trans s4) hD3, us ++ [v2], upd_same, ?_⟩
        rw [takeS ev]
        have tn4 := s4.nums tn
        have num_up : ∀ {v : V} {n : Num}, NumAt K H4 v n → NumAt K (upd H4 D3 (.lst (us ++ [v2]))) v n := fun ⟨p', t', e', q1, q2⟩ => ⟨p', t', e', sqt_at q1 (s4 _ _ h3'), sqt_at q2 (s4 _ _ h3')⟩
        exact Nums.snoc ⟨tn4.1, fun i v n e1 e2 => num_up (tn4.2 i v n e1 e2)⟩ (num_up hv2)
      · rintro H3 ⟨s3, us, h3', tn⟩
        have vl : (voL r ns).length = (placesL r).length := by
          unfold voL
          rw [List.length_map]
        rw [List.length_map, kl, ← vl, List.take_length] at tn
        refine ⟨D3, us, rfl, .inl ⟨SqL.of h3', fun p2 hp2 => ?_⟩⟩
        have sp : Same H3 (upd H3 p2 (.tup us)) := same_upd hp2
        exact k _ _ (((s12.trans s3)).trans sp) ⟨p2, us, rfl, SqT.of upd_same, sp.nums tn⟩
end
end K08

/-! Numbers are numbers, rows are rows (those that are). -/
namespace K08
open PySem PySem.Spec PyProof.Rows L2
theorem hu65 {k : Nat} {A : Around} (hr : Room k A) : A.units + 64 < cLine := hr.units
theorem dp_ints {K : PySem.W.Frag} {H : Hp} : ∀ ns : List Int, DpAll K H (ns.map V.int) (ns.map PyData.int)
  | [] => .nil
  | n :: r => .cons (.int n) (dp_ints r)
def numD (n : Num) : PyData := .tuple [.tuple (n.1.map PyData.int), .int n.2]
theorem num_dp {K : PySem.W.Frag} {H : Hp} {v : V} {n : Num} (h : NumAt K H v n) : Dp K H v (numD n) := by
  obtain ⟨p, t, rfl, h1, h2⟩ := h
  exact .tup h1 (.cons (.tup h2 (dp_ints n.1)) (.cons (.int n.2) .nil))
theorem eqv_ints : ∀ a : List Int, PyData.eqvAll (a.map PyData.int) (a.map PyData.int) = true
  | [] => by simp [PyData.eqvAll]
  | x :: a => by simp [PyData.eqvAll, PyData.eqv, eqv_ints a]
theorem num_eqv (n : Num) : PyData.eqv (numD n) (numD n) = true := by
  unfold numD
  simp [PyData.eqv, PyData.eqvAll, eqv_ints]
theorem ints_lay : ∀ ns : List Int, PyData.canLayAll0 (ns.map PyData.int) = true
  | [] => rfl
  | n :: r => by simp [PyData.canLayAll0, PyData.canLay0, ints_lay r]
theorem ints_depth : ∀ ns : List Int, PyData.depthAll (ns.map PyData.int) ≤ 1
  | [] => by simp [PyData.depthAll]
  | n :: r => by
    have := ints_depth r
    simp only [List.map_cons, PyData.depthAll, PyData.depth]
    omega
theorem num_shaped (n : Num) : SeqAt.shaped (numD n) = true := by
  unfold SeqAt.shaped numD
  rw [Bool.and_eq_true]
  have h2 := ints_depth n.1
  refine ⟨by simp [PyData.canLay0, PyData.canLayAll0, ints_lay], decide_eq_true ?_⟩
  simp only [PyData.depth, PyData.depthAll]
  omega
/-- a number of the order, in lowest terms -/
theorem unitsL_len (e : Int) : (unitsL e).length ≤ e.toNat := by
  unfold unitsL
  exact Nat.le_trans (List.length_filter_le _ _) (Nat.le_of_eq (rgL_len _ _))
section
variable {P : Program} {w : World} {K : PySem.W.Frag} {mg : Str → Option Value} {base : Heap} {f f1 f2 f3 f4 f5 : Addr} {fd fd1 fd2 fd3 fd4 fd5 : FuncData}
def spOrd (b : V) : Sp := fun vs H Q _ => ∃ e : Int, vs = [.int e] ∧ 1 ≤ e ∧ e ≤ 60 ∧ Q b H
theorem scIsOrd : FnScope ["thing"] ["thing"] (defScope sIsOrd) := ⟨rfl, rfl, rfl, by decide +kernel, rfl, by decide +kernel, by decide +kernel⟩
theorem ok_isOrd (F : FnP K "is_order" sIsOrd f fd) (F1 : FnP K "is_integer" sIsInt f1 fd1) (g1 : mg "is_integer" = some (.ref f1)) (G1 : FnOk P w K mg base CX0 1 f1 fd1 ["thing"] spIsInt) (gO : ∃ t, mg "MOST_ORDER" = some (.int 60 t)) : FnOk P w K mg base CX0 2 f fd ["thing"] (spOrd (.bl true)) := by
  have b1 : Binds K fd1 ["thing"] [] := F1.bindsN fun _ _ _ _ _ _ us hl => match us, hl with | [_], _ => rfl
  obtain ⟨t1, e1⟩ := gO
  refine F.ok scIsOrd (fun vs H Q E h => ?_) (fun cdv A outer s H vs Q E hr h => ?_)
  · obtain ⟨e, rfl, _⟩ := h
    rfl
  · obtain ⟨e, rfl, h1, h2, k⟩ := h
    refine ⟨_, PSs.nox (pss_one (ps_ret (pe_and (pe_call G1 hr rfl g1 F1.kp b1 .nil pass0 (pa_cons (pv 0) pa_nil)) (pe_one (pe_chain op_le op_le pe_int (pv 0) (pe_glob (v := .int 60) rfl e1 ⟨_, rfl⟩)))))), ?_⟩
    have c1 : decide ((1 : Int) ≤ e) = true := decide_eq_true h1
    have c2 : decide (e ≤ 60) = true := decide_eq_true h2
    refine ⟨_, rfl, e, rfl, _, rfl, _, rfl, _, _, rfl, rfl, _, rfl, ?_⟩
    refine ite2 (fun _ => ?_) (fun z => absurd c1 z)
    refine ⟨_, _, rfl, rfl, ?_⟩
    show Q (.bl (decide (e ≤ 60))) H
    rw [c2]
    exact k
theorem scChkO : FnScope ["order"] ["order"] (defScope sChkO) := ⟨rfl, rfl, rfl, by decide +kernel, rfl, by decide +kernel, by decide +kernel⟩
theorem ok_chkO (F : FnP K "check_order" sChkO f fd) (F1 : FnP K "is_order" sIsOrd f1 fd1) (g1 : mg "is_order" = some (.ref f1)) (G1 : FnOk P w K mg base CX0 2 f1 fd1 ["thing"] (spOrd (.bl true))) : FnOk P w K mg base CX0 3 f fd ["order"] (spOrd .non) := by
  have b1 : Binds K fd1 ["thing"] [] := F1.bindsN fun _ _ _ _ _ _ us hl => match us, hl with | [_], _ => rfl
  refine F.ok scChkO (fun vs H Q E h => ?_) (fun cdv A outer s H vs Q E hr h => ?_)
  · obtain ⟨e, rfl, _⟩ := h
    rfl
  · obtain ⟨e, rfl, h1, h2, k⟩ := h
    refine ⟨_, PSs.nox (pss_one (ps_if (pt_not (pt_val (pe_call G1 hr rfl g1 F1.kp b1 .nil pass0 (pa_cons (pv 0) pa_nil)))) (pss_one ps_never) pss_nil)), ?_⟩
    exact ⟨_, rfl, e, rfl, h1, h2, _, rfl, iteF k⟩
def spIsNum (K : PySem.W.Frag) (b : V) : Sp := fun vs H Q _ => ∃ (e : Int) (v : V) (n : Num), vs = [.int e, v] ∧ 1 ≤ e ∧ e ≤ 60 ∧ NumAt K H v n ∧ NumOk e n ∧ ∀ H', Same H H' → Q b H'
theorem scIsNum : FnScope ["order", "thing", "tops", "bottom"] ["order", "thing"] (defScope sIsNum) := ⟨rfl, rfl, rfl, by decide +kernel, rfl, by decide +kernel, by decide +kernel⟩
theorem ok_isNum (F : FnP K "is_number" sIsNum f fd) (B : Bl mg) (F1 : FnP K "check_order" sChkO f1 fd1) (g1 : mg "check_order" = some (.ref f1)) (G1 : FnOk P w K mg base CX0 3 f1 fd1 ["order"] (spOrd .non))
    (F2 : FnP K "is_integers" sIsInts f2 fd2) (g2 : mg "is_integers" = some (.ref f2)) (G2 : FnOk P w K mg base CX0 2 f2 fd2 ["thing"] (spIsInts K)) (F3 : FnP K "is_integer" sIsInt f3 fd3) (g3 : mg "is_integer" = some (.ref f3)) (G3 : FnOk P w K mg base CX0 1 f3 fd3 ["thing"] spIsInt)
    (F4 : FnP K "units_of" sUnits f4 fd4) (g4 : mg "units_of" = some (.ref f4)) (G4 : FnOk P w K mg base CX0 1 f4 fd4 ["order"] spUnits) (F5 : FnP K "lowered" sLow f5 fd5) (g5 : mg "lowered" = some (.ref f5)) (G5 : FnOk P w K mg base CX0 1 f5 fd5 ["tops", "bottom"] (spLow K)) :
    FnOk P w K mg base CX0 4 f fd ["order", "thing"] (spIsNum K (.bl true)) := by
  have b1 : Binds K fd1 ["order"] [] := F1.bindsN fun _ _ _ _ _ _ us hl => match us, hl with | [_], _ => rfl
  have b2 : Binds K fd2 ["thing"] [] := F2.bindsN fun _ _ _ _ _ _ us hl => match us, hl with | [_], _ => rfl
  have b3 : Binds K fd3 ["thing"] [] := F3.bindsN fun _ _ _ _ _ _ us hl => match us, hl with | [_], _ => rfl
  have b4 : Binds K fd4 ["order"] [] := F4.bindsN fun _ _ _ _ _ _ us hl => match us, hl with | [_], _ => rfl
  have b5 : Binds K fd5 ["tops", "bottom"] [] := F5.bindsN fun _ _ _ _ _ _ us hl => match us, hl with | [_, _], _ => rfl
  refine F.ok scIsNum (fun vs H Q E h => ?_) (fun cdv A outer s H vs Q E hr h => ?_)
  · obtain ⟨e, v, n, rfl, _⟩ := h
    rfl
  · obtain ⟨e, v, n, rfl, h1, h2, hv, ok, k⟩ := h
    refine ⟨_, PSs.nox (pss_cons (ps_expr (pe_call G1 hr rfl g1 F1.kp b1 .nil pass0 (pa_cons (pv 0) pa_nil)))
      (pss_cons (ps_if (PW.pt (pw_or (pt_not (pt_val (pe_callB call_isi (by rfl) (B "isinstance" (by decide +kernel)) (by decide +kernel) (pa_cons (pv 1) (pa_cons (pe_bltn (v := .ty "tuple") rfl (B "tuple" (by decide +kernel)) (by decide +kernel) rfl) pa_nil))))) (pw_or1 (pt_cmpR op_ne (pe_callB call_len_seq (by rfl) (B "len" (by decide +kernel)) PySem.boot_len (pa_cons (pv 1) pa_nil)) pe_int (nomark _))))) (pss_one ps_never) pss_nil)
      (pss_cons (ps_asg (pv 1) (pg_tup rfl (pgs_cons (pg_name (i := 2) scIsNum.nd rfl (Or.inl rfl)) (pgs_cons (pg_name (i := 3) scIsNum.nd rfl (Or.inl rfl)) pgs_nil))))
      (pss_cons (ps_if (PW.pt (pw_or (pt_not (pt_val (pe_call G2 (hr.mono (by decide)) rfl g2 F2.kp b2 .nil pass0 (pa_cons (pv 2) pa_nil)))) (pw_or (pt_not (pt_val (pe_call G3 (hr.mono (by decide)) rfl g3 F3.kp b3 .nil pass0 (pa_cons (pv 3) pa_nil)))) (pw_or1 (pt_cmpR op_lt (pv 3) pe_int (nomark _)))))) (pss_one ps_never) pss_nil)
      (pss_one (ps_ret (pe_and (pe_cmpR op_eq (pe_callB call_len_seq (by rfl) (B "len" (by decide +kernel)) PySem.boot_len (pa_cons (pv 2) pa_nil)) (pe_callB call_len_seq (by rfl) (B "len" (by decide +kernel)) PySem.boot_len (pa_cons (pe_call G4 (hr.mono (by decide)) rfl g4 F4.kp b4 .nil pass0 (pa_cons (pv 0) pa_nil)) pa_nil)) (nomark _))
        (pe_one (pe_cmpR (op_eqD (hu65 hr)) (pe_call G5 (hr.mono (by decide)) rfl g5 F5.kp b5 .nil pass0 (pa_cons (pv 2) (pa_cons (pv 3) pa_nil))) (pv 1) (nomark _)))))))))), ?_⟩
    obtain ⟨p, t, rfl, hp, ht⟩ := id hv
    refine ⟨_, rfl, e, rfl, h1, h2, ?_⟩
    refine ⟨_, rfl, _, _, .type "tuple", _, true, rfl, .ty "tuple", tyT hp, kit_ty (by decide +kernel), _, rfl, ?_⟩
    refine iteF ?_
    refine ⟨_, rfl, p, _, rfl, .inr hp, rfl, _, rfl, ?_⟩
    refine iteF ?_
    refine ⟨_, rfl, p, _, rfl, hp, rfl, _, _, rfl, _, _, rfl, rfl, ?_⟩
    have ul := unitsL_len e
    have ol := ok.len
    refine ⟨_, rfl, _, n.1, rfl, ⟨t, rfl, ht⟩, by omega, fun H1 s1 => ⟨_, rfl, iteF ?_⟩⟩
    refine ⟨_, rfl, n.2, rfl, _, rfl, iteF ?_⟩
    refine ⟨_, rfl, _, _, rfl, rfl, _, rfl, ?_⟩
    have b0 := ok.pos
    have b2 := ok.big
    refine ite2 (fun c => absurd (of_decide_eq_true c) (by omega)) fun _ => ?_
    refine ⟨_, rfl, t, _, rfl, .inr (s1.tup ht), _, rfl, e, rfl, h1, h2, fun U H2 s2 nU hU => ?_⟩
    refine ⟨U, _, rfl, .inl (SqL.of hU), rfl, ?_⟩
    have c3 : decide (V.int (((n.1.map V.int).length : Nat) : Int) = V.int ((((unitsL e).map V.int).length : Nat) : Int)) = true := decide_eq_true (by rw [List.length_map, List.length_map, ol])
    refine ⟨_, rfl, ?_⟩
    refine ite2 (fun _ => ?_) (fun z => absurd c3 z)
    have s12 := s1.trans s2
    refine ⟨_, rfl, _, rfl, t, n.1, n.2, rfl, .inr (s12.tup ht), b0, by omega, by omega, fun v2 H3 s3 hv2 => ?_⟩
    rw [ok.low] at hv2
    refine ⟨_, rfl, numD n, numD n, num_dp hv2, num_dp ((s12.trans s3).num hv), num_shaped n, num_shaped n, ?_⟩
    rw [num_eqv]
    exact k H3 (s12.trans s3)
end
end K08

/-! is_row, check_row, voices. -/
namespace K08
open PySem PySem.Spec PyProof.Rows L2
theorem rr_szl : ∀ r ∈ RR, (((placesL r).length : Nat) : Int) = sizeL r := by decide +kernel
section
variable {P : Program} {w : World} {K : PySem.W.Frag} {mg : Str → Option Value} {base : Heap} {f f1 f2 f3 f4 f5 C fI fM : Addr} {fd fd1 fd2 fd3 fd4 fd5 fdI : FuncData}
def spSzOf (K : PySem.W.Frag) : Sp := fun vs H Q _ => ∃ (v : V) (r : List Int), vs = [v] ∧ TupI K H v r ∧ r ∈ RR ∧ ∀ H', Same H H' → Q (.int (sizeL r)) H'
theorem scSzOf : FnScope ["rings"] ["rings"] (defScope sSizeOf) := ⟨rfl, rfl, rfl, by decide +kernel, rfl, by decide +kernel, by decide +kernel⟩
theorem ok_szOf (F : FnP K "size_of" sSizeOf f fd) (F1 : FnP K "check_rings" sChkR f1 fd1) (g1 : mg "check_rings" = some (.ref f1)) (G1 : FnOk P w K mg base CX0 4 f1 fd1 ["rings"] (spNon K)) (F2 : FnP K "_size" sSize f2 fd2) (g2 : mg "_size" = some (.ref f2)) : FnOk P w K mg base CX0 5 f fd ["rings"] (spSzOf K) := by
  have G2 : FnOk P w K mg base CX0 1 f2 fd2 ["lengths"] (spSize' K) := ok_size F2
  have b1 : Binds K fd1 ["rings"] [] := F1.bindsN fun _ _ _ _ _ _ us hl => match us, hl with | [_], _ => rfl
  have b2 : Binds K fd2 ["lengths"] [] := F2.bindsN fun _ _ _ _ _ _ us hl => match us, hl with | [_], _ => rfl
  refine F.ok scSzOf (fun vs H Q E h => ?_) (fun cdv A outer s H vs Q E hr h => ?_)
  · obtain ⟨v, r, rfl, _⟩ := h
    rfl
  · obtain ⟨v, r, rfl, ⟨a, rfl, ha⟩, h14, k⟩ := h
    refine ⟨_, PSs.nox (pss_cons (ps_expr (pe_call G1 hr rfl g1 F1.kp b1 .nil pass0 (pa_cons (pv 0) pa_nil))) (pss_one (ps_ret (pe_call G2 (hr.mono (by decide)) rfl g2 F2.kp b2 .nil pass0 (pa_cons (pv 0) pa_nil))))), ?_⟩
    exact ⟨_, rfl, _, r, rfl, ⟨a, rfl, ha⟩, h14, fun H1 s1 => ⟨_, rfl, _, r, rfl, ⟨a, rfl, s1.tup ha⟩, h14, k H1 s1⟩⟩
def spRow (K : PySem.W.Frag) (b : V) : Sp := fun vs H Q _ => ∃ (v u : V) (r : List Int) (ns : List Num), vs = [v, u] ∧ TupI K H v r ∧ RowAt K H u ns ∧ r ∈ RR ∧ RowG r ns ∧ ∀ H', Same H H' → Q b H'
abbrev irN : List Str := ["rings", "thing", "size", "order", "item"]
theorem scIsRow : FnScope irN ["rings", "thing"] (defScope sIsRow) := ⟨rfl, rfl, rfl, by decide +kernel, rfl, by decide +kernel, by decide +kernel⟩
theorem ok_isRow (F : FnP K "is_row" sIsRow f fd) (B : Bl mg) (F1 : FnP K "size_of" sSizeOf f1 fd1) (g1 : mg "size_of" = some (.ref f1)) (G1 : FnOk P w K mg base CX0 5 f1 fd1 ["rings"] (spSzOf K)) (F2 : FnP K "order_of" sOrdOf f2 fd2) (g2 : mg "order_of" = some (.ref f2)) (G2 : FnOk P w K mg base CX0 5 f2 fd2 ["rings"] (spOrder K))
    (F3 : FnP K "is_number" sIsNum f3 fd3) (g3 : mg "is_number" = some (.ref f3)) (G3 : FnOk P w K mg base CX0 4 f3 fd3 ["order", "thing"] (spIsNum K (.bl true))) : FnOk P w K mg base CX0 6 f fd ["rings", "thing"] (spRow K (.bl true)) := by
  have b1 : Binds K fd1 ["rings"] [] := F1.bindsN fun _ _ _ _ _ _ us hl => match us, hl with | [_], _ => rfl
  have b2 : Binds K fd2 ["rings"] [] := F2.bindsN fun _ _ _ _ _ _ us hl => match us, hl with | [_], _ => rfl
  have b3 : Binds K fd3 ["order", "thing"] [] := F3.bindsN fun _ _ _ _ _ _ us hl => match us, hl with | [_, _], _ => rfl
  refine F.ok scIsRow (fun vs H Q E h => ?_) (fun cdv A outer s H vs Q E hr h => ?_)
  · obtain ⟨v, u, r, ns, rfl, _⟩ := h
    rfl
  · obtain ⟨v, u, r, ns, rfl, ⟨a, rfl, ha⟩, hR, h14, ro, k⟩ := h
    refine ⟨_, PSs.nox (pss_cons (ps_asg (pe_tup (pa_cons (pe_call G1 hr rfl g1 F1.kp b1 .nil pass0 (pa_cons (pv 0) pa_nil)) (pa_cons (pe_call G2 hr rfl g2 F2.kp b2 .nil pass0 (pa_cons (pv 0) pa_nil)) pa_nil))) (pg_tup rfl (pgs_cons (pg_name (i := 2) scIsRow.nd rfl (Or.inl rfl)) (pgs_cons (pg_name (i := 3) scIsRow.nd rfl (Or.inr rfl)) pgs_nil))))
      (pss_cons (ps_if (PW.pt (pw_or (pt_not (pt_val (pe_callB call_isi (by rfl) (B "isinstance" (by decide +kernel)) (by decide +kernel) (pa_cons (pv 1) (pa_cons (pe_bltn (v := .ty "tuple") rfl (B "tuple" (by decide +kernel)) (by decide +kernel) rfl) pa_nil))))) (pw_or1 (pt_cmpR op_ne (pe_callB call_len_seq (by rfl) (B "len" (by decide +kernel)) PySem.boot_len (pa_cons (pv 1) pa_nil)) (pv 2) (nomark _))))) (pss_one ps_never) pss_nil)
      (pss_one (ps_ret (pe_callB (cr_all rfl) (by rfl) (B "all" (by decide +kernel)) (by decide +kernel) (pa_cons
        (pe_lc (own := [("item", 4)]) (g := gName 4) (tt := tYes) (te := tCall (spIsNum K (.bl true)) [] E0 (tCons (tVar 3) (tCons (tVar 4) tNil))) rfl scIsRow.nd (pi_tup (pv 1)) (blkOk_by (own := [("item", 4)]) (N := irN) (sc := defScope sIsRow) (by decide +kernel))
          (fun _ _ _ _ _ => pg_name (i := 4) scIsRow.nd rfl (Or.inl rfl)) (fun _ _ _ _ _ => pts_nil) (fun _ _ _ _ _ => pe_call G3 (hr.mono (by decide)) rfl g3 F3.kp b3 .nil pass0 (pa_cons (pv 3) (pa_cons (pv 4) pa_nil)))) pa_nil)))))), ?_⟩
    have eb := er_bd _ (er_in r h14)
    have h16 := rr_pl0 r h14
    obtain ⟨p, us, rfl, hp, hN⟩ := id hR
    refine ⟨_, rfl, _, r, rfl, ⟨a, rfl, ha⟩, h14, fun H1 s1 => ?_⟩
    refine ⟨_, rfl, _, r, rfl, ⟨a, rfl, s1.tup ha⟩, h14, fun H2 s2 => ?_⟩
    refine ⟨by show 2 ≤ sizeLine; decide, fun t0 ht0 => ?_⟩
    have s3 := same_new (o := .tup [.int (sizeL r), .int (ordL r)]) (s1.trans s2) ht0
    refine ⟨t0, _, rfl, SqT.of upd_same, rfl, _, _, rfl, _, _, rfl, rfl, ?_⟩
    generalize upd H2 t0 (.tup [.int (sizeL r), .int (ordL r)]) = H3 at s3
    refine ⟨_, rfl, _, _, .type "tuple", _, true, rfl, .ty "tuple", tyT (s3.tup hp), kit_ty (by decide +kernel), _, rfl, ?_⟩
    refine iteF ?_
    refine ⟨_, rfl, p, _, rfl, .inr (s3.tup hp), _, rfl, rfl, _, rfl, ?_⟩
    have el : ((us.length : Nat) : Int) = sizeL r := by rw [hN.1, ro.ok.len, rr_szl r h14]
    rw [el]
    refine ite2 (fun c => absurd c (by simp)) fun _ => ?_
    refine ⟨_, rfl, p, rfl, ⟨_, s3.tup hp⟩, fun D hD => ?_⟩
    refine lc_tup (K := K) (a := p) (xs := us) (fun i H4 => Same H3 H4 ∧ H4 D = some (.lst ((List.replicate i true).map V.bl))) ⟨same_upd hD, upd_same⟩ (fun i H4 _ ⟨s4, _⟩ => s4.tup (s3.tup hp)) ?_ ?_
    · rintro i y H4 hi ⟨s4, h4⟩
      obtain ⟨n, hn, hnum⟩ := hN.get hi
      have nm := List.mem_of_getElem? hn
      have il := ltL hn
      have lns := ro.ok.len
      refine ⟨rfl, _, rfl, _, rfl, ordL r, _, n, rfl, by omega, by omega, (s3.trans s4).num hnum, ro.num n nm, fun H5 s5 => ?_⟩
      refine ⟨_, s5 _ _ h4, sl_lt (by rw [List.length_map, List.length_replicate]; omega), same_at (s4.trans s5) hD, ?_⟩
      rw [upd_same, List.replicate_succ', List.map_append]
      rfl
    · rintro H4 ⟨s4, h4⟩
      refine ⟨D, _, rfl, SqL.of h4, ?_⟩
      rw [all_true]
      exact k H4 (s3.trans s4)
theorem scChkRow : FnScope ["rings", "row"] ["rings", "row"] (defScope sChkRow) := ⟨rfl, rfl, rfl, by decide +kernel, rfl, by decide +kernel, by decide +kernel⟩
theorem ok_chkRow (F : FnP K "check_row" sChkRow f fd) (F1 : FnP K "is_row" sIsRow f1 fd1) (g1 : mg "is_row" = some (.ref f1)) (G1 : FnOk P w K mg base CX0 6 f1 fd1 ["rings", "thing"] (spRow K (.bl true))) : FnOk P w K mg base CX0 7 f fd ["rings", "row"] (spRow K .non) := by
  have b1 : Binds K fd1 ["rings", "thing"] [] := F1.bindsN fun _ _ _ _ _ _ us hl => match us, hl with | [_, _], _ => rfl
  refine F.ok scChkRow (fun vs H Q E h => ?_) (fun cdv A outer s H vs Q E hr h => ?_)
  · obtain ⟨v, u, r, ns, rfl, _⟩ := h
    rfl
  · obtain ⟨v, u, r, ns, rfl, hv, hR, h14, ro, k⟩ := h
    refine ⟨_, PSs.nox (pss_one (ps_if (pt_not (pt_val (pe_call G1 hr rfl g1 F1.kp b1 .nil pass0 (pa_cons (pv 0) (pa_cons (pv 1) pa_nil))))) (pss_one ps_never) pss_nil)), ?_⟩
    exact ⟨_, rfl, _, rfl, _, _, r, ns, rfl, hv, hR, h14, ro, fun H1 s1 => ⟨_, rfl, iteF (k H1 s1)⟩⟩
def spVoices (K : PySem.W.Frag) : Sp := fun vs H Q _ => ∃ (v u : V) (r : List Int) (ns : List Num), vs = [v, u] ∧ TupI K H v r ∧ RowAt K H u ns ∧ r ∈ RR ∧ RowG r ns ∧ ∀ v' H', Same H H' → RowAt K H' v' (voL r ns) → Q v' H'
theorem scVoices : FnScope ["rings", "row"] ["rings", "row"] (defScope sVoices) := ⟨rfl, rfl, rfl, by decide +kernel, rfl, by decide +kernel, by decide +kernel⟩
theorem ok_voices (F : FnP K "voices" sVoices f fd) (T : FlT K mg C fI fM) (FI : FunD K "__init__" "Floor.__init__" (defArgs sFInit) (defBody sFInit) (defScope sFInit) [] [] fI fdI) (GI : FnOk P w K mg base CX0 3 fI fdI ["self", "rings"] (spFInit K C))
    (F1 : FnP K "check_row" sChkRow f1 fd1) (g1 : mg "check_row" = some (.ref f1)) (G1 : FnOk P w K mg base CX0 7 f1 fd1 ["rings", "row"] (spRow K .non)) (F2 : FnP K "voices_of" sVOf f2 fd2) (g2 : mg "voices_of" = some (.ref f2)) (G2 : FnOk P w K mg base CX0 4 f2 fd2 ["floor", "row"] (spVO K C)) :
    FnOk P w K mg base CX0 8 f fd ["rings", "row"] (spVoices K) := by
  have bI : Binds K fdI ["self", "rings"] [] := FI.bindsN fun _ _ _ _ _ _ us hl => match us, hl with | [_, _], _ => rfl
  have b1 : Binds K fd1 ["rings", "row"] [] := F1.bindsN fun _ _ _ _ _ _ us hl => match us, hl with | [_, _], _ => rfl
  have b2 : Binds K fd2 ["floor", "row"] [] := F2.bindsN fun _ _ _ _ _ _ us hl => match us, hl with | [_, _], _ => rfl
  refine F.ok scVoices (fun vs H Q E h => ?_) (fun cdv A outer s H vs Q E hr h => ?_)
  · obtain ⟨v, u, r, ns, rfl, _⟩ := h
    rfl
  · obtain ⟨v, u, r, ns, rfl, ⟨a, rfl, ha⟩, hR, h14, ro, k⟩ := h
    refine ⟨_, PSs.nox (pss_cons (ps_expr (pe_call G1 hr rfl g1 F1.kp b1 .nil pass0 (pa_cons (pv 0) (pa_cons (pv 1) pa_nil))))
      (pss_one (ps_ret (pe_call G2 (hr.mono (by decide)) rfl g2 F2.kp b2 .nil pass0 (pa_cons (pe_make T.mkk GI (hr.mono (by decide)) rfl T.mgC bI .nil pass0 (pa_cons (pv 0) pa_nil)) (pa_cons (pv 1) pa_nil)))))), ?_⟩
    refine ⟨_, rfl, _, rfl, _, _, r, ns, rfl, ⟨a, rfl, ha⟩, hR, h14, ro, fun H1 s1 => ?_⟩
    refine ⟨_, rfl, fun p dx np ndx nex => ?_⟩
    have tn : Same H1 (upd (upd H1 dx (.own p)) p (.ins C dx [])) := same_new (same_upd ndx) (by rw [upd_ne (Ne.symm nex)]; exact np)
    refine ⟨p, dx, _, r, rfl, upd_same, ⟨a, rfl, tn.tup (s1.tup ha)⟩, h14, fun H3 hF kp => ⟨rfl, ?_⟩⟩
    have s3 : Same H1 H3 := Same.made np ndx kp
    have t3 := s1.trans s3
    exact ⟨_, rfl, p, _, r, ns, rfl, hF, t3.row hR, h14, ro.ok, fun v' H4 s4 hv' => k v' H4 (t3.trans s4) hv'⟩
end
end K08

/-! enumerate of a tuple. -/
namespace K08
open PySem PySem.Spec PyProof.Rows L2
theorem meets_enum1 {v : Value} {o : Obj} {H : Heap → Prop} (B : Begins v o H) :
    Meets (Builtin.«enumerate.__new__» ⟨[.type "enumerate", v], []⟩) (fun _ R s => H s.heap ∧
      R (.ok (.ret (.ref (s.heap.push o).objs.size))) { s with heap := (s.heap.push o).push { cls := .type "enumerate", data := .fields #[.none, .bool false, .ref s.heap.objs.size, rawInt 0, .none, .none] } }) :=
  .of_wp fun prog w A R s h => by
    obtain ⟨hp, g, d, tk, os⟩ := s; obtain ⟨h1, h⟩ := h
    have hsub := sub_enumerate
    have q1 : ∀ {A' : Around} {E : Value → Shared → Prop} {Q : Value → Shared → Prop}, Q (.ref hp.objs.size) ⟨hp.push o, g, d, tk, os⟩ → wpAny (model prog w) A' (pyIter v) Q E ⟨hp, g, d, tk, os⟩ :=
      fun q => B.iter prog w _ _ ⟨hp, g, d, tk, os⟩ _ h1 q
    wp_walk using q1
    refine wpAny_stack_any fun st => wpAny_pure ?_
    split
    · rename_i c _ _ _ _ _
      cases (c == Value.type "enumerate")
      · wp_walk using q1
        exact ⟨_, rfl, h⟩
      · wp_walk using q1
        exact ⟨_, rfl, h⟩
    · wp_walk using q1
      exact ⟨_, rfl, h⟩
theorem enum1_begins {prog : Program} {w : World} {A : Around} {E : Value → Shared → Prop} {s : Shared} {v : Value} {o : Obj} {H : Heap → Prop} {Q : Value → Shared → Prop} (B : Begins v o H) (h1 : H s.heap)
    (h : ∀ h', IsEnum h' (s.heap.objs.size + 1) s.heap.objs.size 0 .none → h'.get? s.heap.objs.size = some o → h'.objs.size = s.heap.objs.size + 2 →
      (∀ b o, s.heap.get? b = some o → h'.get? b = some o) → Q (.ref (s.heap.objs.size + 1)) { s with heap := h' }) :
    wpAny (model prog w) A (call (.type "enumerate") [v]) Q E s := by
  refine callType_new PySem.F.called_enumerate (by decide) (PySem.F.typeCall_enumerate_1 _) (PySem.F.newCall_enumerate_1 _) (fun obj => PySem.F.args_object_init_2 obj _) PySem.F.entry_enumerate_new
    (meets_enum1 B) ⟨h1, ?_⟩
  have hz : (s.heap.push o).objs.size = s.heap.objs.size + 1 := Heap.size_push ..
  show _ ∧ _
  rw [hz]
  have he : IsEnum ((s.heap.push o).push { cls := .type "enumerate", data := .fields #[.none, .bool false, .ref s.heap.objs.size, rawInt 0, .none, .none] }) (s.heap.objs.size + 1) s.heap.objs.size 0 .none := by
    have := Heap.get?_push_size (s.heap.push o) (o := { cls := .type "enumerate", data := .fields #[.none, .bool false, .ref s.heap.objs.size, rawInt 0, .none, .none] }) rfl
    rw [hz] at this; exact this
  refine ⟨⟨_, he, rfl⟩, h _ he (Heap.get?_push_of_some _ (Heap.get?_push_size _ B.free)) (by rw [Heap.size_push, hz]) fun b o x => Heap.get?_push_of_some _ (Heap.get?_push_of_some _ x)⟩
/-- the tuple at a as it stands at each turn, each item in a new pair -/
def IteT (K : PySem.W.Frag) (a : Addr) : It :=
  ⟨fun i H => ∃ (xs : List V) (x : V), SqT K H a xs ∧ xs[i]? = some x, fun i H v H' => ∃ T x, v = .ref T ∧ H T = none ∧ H' = upd H T (.tup [.int (i : Nat), x]) ∧ ∀ xs, SqT K H a xs → xs[i]? = some x, fun i H => ∃ xs : List V, SqT K H a xs ∧ xs.length = i⟩
theorem turn_enumT {P : Program} {w : World} {K : PySem.W.Frag} {elts : List Expr} {kk : Nat} {tpos : Pos} {a e it : Addr} (hei : e ≠ it) (hea : e ∉ [it, a]) (na : a ≠ it) :
    Turn P w K (.Tuple elts kk tpos) (IteT K a) [e, it] e (fun i h => (∃ old, IsEnum h e it ((0 : Int) + (i : Int)) old) ∧ h.IsTupleIter it a i) where
  mem := by simp
  obj := fun i h st b hb => by
    obtain ⟨⟨old, he⟩, ⟨o, ho, hc, hd⟩⟩ := st
    have e' : b = e ∨ b = it := by simpa using hb
    rcases e' with z | z
    · rw [z]; exact ⟨_, he, fun v q => nomatch q⟩
    · rw [z]; exact ⟨o, ho, fun v q => by rw [hd] at q; cases q⟩
  keep := fun i h h' st k => let ⟨⟨old, he⟩, hi⟩ := st; ⟨⟨old, k e (by simp) _ he⟩, hi.at fun o q => k it (by simp) o q⟩
  item := by
    intro X hP hw hK hc i pins s σ H E I hf st hg
    subst hP hw hK
    obtain ⟨he, h1⟩ := st
    obtain ⟨xs, x, hq, hx⟩ := hg
    obtain ⟨its, rv, p, _⟩ := I.tuple hq
    obtain ⟨u, hu, ru⟩ := rv.get hx
    have hh : X.A.in1.handled = none := I.ok.hd hc
    have G := GoesN.enumFrom (prog := X.prog) (w := X.w) (A := X.A) (elts := elts) (x1 := kk) (pos := tpos) 0 (Draws.tuple hh it a na its.toArray) e hei hea (by simp)
    have l1 := ltL hu
    refine G.goes i s (fun u s2 => ∃ x H', Inv X pins σ H' s2 ∧ RelV x u ∧ (IteT X.K a).yld i H x H' ∧ _ ∧ ∀ b ∈ [e, it], H' b = none) E (by simpa using l1) ⟨he, h1, p⟩ fun v h' tk hY st2 hk htk => ?_
    obtain ⟨T, t, w1, rfl, hT, q1, hI⟩ := hY
    obtain ⟨he', k1, _⟩ := st2
    have e1 : w1 = u := by simpa [hu] using q1.symm
    subst e1
    have new : ObjOk X.prog X.w (upd H T (.tup [.int (i : Nat), x])) h' T (.tup [.int (i : Nat), x]) := ⟨by show 2 ≤ sizeLine; decide, [.int ((0 : Int) + (i : Int)) t, w1], .cons ⟨t, by rw [Int.zero_add]⟩ (.cons ru .nil), hI⟩
    have I1 := I.turnedNew (t' := tk) (ch := [e, it]) hk hf hT new
    refine ⟨.ref T, _, I1, rfl, ⟨T, x, rfl, I.hok.fresh hT, rfl, fun l hl => by rw [I.tuple_inj hl hq]; exact hx⟩, ⟨he', k1⟩, fun b hb => ?_⟩
    have hlt : b < s.heap.objs.size := by
      have e' : b = e ∨ b = it := by simpa using hb
      obtain ⟨_, f0⟩ := he
      obtain ⟨_, f1, _⟩ := h1
      rcases e' with q | q
      · rw [q]; exact Heap.lt_size f0
      · rw [q]; exact Heap.lt_size f1
    rw [upd_ne (Nat.ne_of_lt (Nat.lt_of_lt_of_le hlt hT))]
    exact (hf b hb).1
  done := by
    intro X hP hw hK hc i pins s σ H E I hf st hg
    subst hP hw hK
    obtain ⟨he, h1⟩ := st
    obtain ⟨xs, hq, hn⟩ := hg
    obtain ⟨its, rv, p, _⟩ := I.tuple hq
    have l1 := rv.length
    have hh : X.A.in1.handled = none := I.ok.hd hc
    have G := GoesN.enumFrom (prog := X.prog) (w := X.w) (A := X.A) (elts := elts) (x1 := kk) (pos := tpos) 0 (Draws.tuple hh it a na its.toArray) e hei hea (by simp)
    have en : its.toArray.size = i := by simp; omega
    rw [en] at G
    exact G.stops s _ E ⟨he, h1, p⟩ fun h' tk hk htk => I.turnedL (t' := tk) (ch := [e, it]) hk hf
  self := fun A i s Q E st h => let ⟨⟨_, he⟩, _⟩ := st; wpAny_pyIter_enum he h
def iEnumT (K : PySem.W.Frag) (ta : TA) : TI := fun σ H R => ta σ H fun vs H1 => ∃ a xs, vs = [.ref a] ∧ SqT K H1 a xs ∧ R (IteT K a) H1
theorem pi_enumT {X : Cx} {e : Expr} {ta : TA} {p pos tpos : Pos} {elts : List Expr} {kk : Nat} (hg : Gl X "enumerate") (hm : X.mg "enumerate" = none) (ha : PA X [e] ta) (hs : starEach [e] X.env = [(false, eval e X.env)] := by rfl) :
    PI X (.Tuple elts kk tpos) (.Call (.Name "enumerate" p) [e] [] pos) (iEnumT X.K ta) := by
  refine ⟨fun pins s σ H R I h => ?_⟩
  refine Call_ (ld_blt I hg hm boot_enumerate (PyProof.Rows.callWith_type1 (thn (ha.run pos pins s σ H _ I h) fun us s1 ⟨vs, H1, I1, r1, q1⟩ => ?_) hs rfl))
  obtain ⟨a, xs, rfl, hq, q⟩ := q1
  cases r1 with
  | cons r rr =>
    cases rr
    cases r
    obtain ⟨its, rv, p', _⟩ := I1.tuple hq
    obtain ⟨o1, ho1, _⟩ := id p'
    have la := Heap.lt_size ho1
    generalize hN : s1.heap.objs.size = N at la
    refine enum1_begins (begins_tuple a its.toArray) p' fun h' he g1 hsz hk => wpAny_pyIter_enum he ?_
    rw [hN] at he g1 ⊢
    have I2 : Inv X pins σ H1 { s1 with heap := h' } := I1.kept (t' := s1.toks) hk
    refine ⟨N + 1, [N + 1, N], _, _, H1, rfl, I2, turn_enumT (a := a) (e := N + 1) (it := N) (Nat.succ_ne_self _) ?_ (Nat.ne_of_lt la), ⟨⟨_, he⟩, ⟨_, g1, rfl, rfl⟩⟩, fun b hb => ?_, q⟩
    · intro z
      have e' : N + 1 = N ∨ N + 1 = a := by simpa using z
      rcases e' with z | z
      · exact Nat.succ_ne_self _ z
      · rw [← z] at la
        exact Nat.lt_irrefl _ (Nat.lt_of_succ_lt la)
    · have hle : s1.heap.objs.size ≤ b := by
        have e' : b = N + 1 ∨ b = N := by simpa using hb
        rw [hN]
        rcases e' with z | z
        · rw [z]; exact Nat.le_add_right _ _
        · rw [z]; exact Nat.le_refl _
      exact I1.fpOk hle (I1.hok.fresh hle)
theorem walk_enumT {K : PySem.W.Frag} {a : Addr} {xs : List V} : Walk (IteT K a) xs.length (fun H => SqT K H a xs) (YPair (fun i => some (.int (i : Nat))) (fun i => xs[i]?)) := by
  refine ⟨fun i _ hi q => ⟨xs, xs[i], q, by simp [hi]⟩, fun _ q => ⟨xs, q, rfl⟩, fun i H v H' _ q y => ?_⟩
  obtain ⟨T, x, h1, h2, h3, h4⟩ := y
  exact ⟨T, .int (i : Nat), x, h1, h2, h3, rfl, h4 xs q⟩
end K08

/-! Numbers multiplied, exchanged; turns. -/
namespace K08
open PySem PySem.Spec PyProof.Rows L2
theorem mulR_len (one : Int) (i : Nat) (others tot : List Int) : ∀ k, (mulR one i others tot k).length = tot.length
  | 0 => rfl
  | k + 1 => by
    show (List.set _ _ _).length = tot.length
    rw [List.length_set, mulR_len one i others tot k]
theorem mulGo_len (ones others : List Int) : ∀ i, (mulGo ones others i).length = ones.length + others.length - 1
  | 0 => by simp [mulGo]
  | i + 1 => by
    show (mulR _ _ _ _ _).length = _
    rw [mulR_len, mulGo_len ones others i]
section
variable {P : Program} {w : World} {K : PySem.W.Frag} {mg : Str → Option Value} {base : Heap} {f f1 f2 f3 f4 f5 C fI fM : Addr} {fd fd1 fd2 fd3 fd4 fd5 fdI : FuncData}
def spMulP (K : PySem.W.Frag) : Sp := fun vs H Q _ => ∃ (a b c : Addr) (ones others dv : List Int), vs = [.ref a, .ref b, .ref c] ∧ SqT K H a (ones.map V.int) ∧ SqT K H b (others.map V.int) ∧ SqT K H c (dv.map V.int) ∧ 2 ≤ dv.length ∧ dv.length ≤ 100 ∧ (∀ d ∈ dv, -1000 ≤ d ∧ d ≤ 1000) ∧ 1 ≤ ones.length ∧ ones.length ≤ 50 ∧ 1 ≤ others.length ∧ others.length ≤ 50 ∧ ((∀ t ∈ ones, -(2 ^ 64) < t ∧ t < 2 ^ 64) ∨ ∀ t ∈ others, -(2 ^ 64) < t ∧ t < 2 ^ 64) ∧
  ∀ t H', Same H H' → H t = none → H' t = some (.tup ((mulL ones others dv).map V.int)) → Q (.ref t) H'
abbrev mpN : List Str := ["ones", "others", "polynomial", "total", "i", "one", "k", "other"]
theorem scMulP : FnScope mpN ["ones", "others", "polynomial"] (defScope sMulP) := ⟨rfl, rfl, rfl, by decide +kernel, rfl, by decide +kernel, by decide +kernel⟩
theorem ok_mulP (F : FnP K "multiplied" sMulP f fd) (B : Bl mg) (F1 : FnP K "reduced" sRed f1 fd1) (g1 : mg "reduced" = some (.ref f1)) (G1 : FnOk P w K mg base CX0 2 f1 fd1 ["items", "polynomial"] (spRed K)) : FnOk P w K mg base CX0 3 f fd ["ones", "others", "polynomial"] (spMulP K) := by
  have b1 : Binds K fd1 ["items", "polynomial"] [] := F1.bindsN fun _ _ _ _ _ _ us hl => match us, hl with | [_, _], _ => rfl
  refine F.ok scMulP (fun vs H Q E h => ?_) (fun cdv A outer s H vs Q E hr h => ?_)
  · obtain ⟨a, b, c, ones, others, dv, rfl, _⟩ := h
    rfl
  · obtain ⟨a, b, c, ones, others, dv, rfl, ha, hb, hc, d1, d2, db, l1, l2, m1, m2, ob, k⟩ := h
    refine ⟨_, PSs.nox (pss_cons (ps_set (i := 3) scMulP.nd rfl (Or.inl rfl) (pe_op op_rep (pe_lst (pa_cons pe_int pa_nil)) (pe_op op_sub (pe_op op_add (pe_callB call_len_seq (by rfl) (B "len" (by decide +kernel)) PySem.boot_len (pa_cons (pv 0) pa_nil)) (pe_callB call_len_seq (by rfl) (B "len" (by decide +kernel)) PySem.boot_len (pa_cons (pv 1) pa_nil))) pe_int)))
      (pss_cons (ps_for PassesOwn.never rfl (pi_enumT (by rfl) (B "enumerate" (by decide +kernel)) (pa_cons (pv 0) pa_nil)) (pg_tup rfl (pgs_cons (pg_name (i := 4) scMulP.nd rfl (Or.inl rfl)) (pgs_cons (pg_name (i := 5) scMulP.nd rfl (Or.inl rfl)) pgs_nil)))
        (pss_one (ps_for PassesOwn.never rfl (pi_enumT (by rfl) (B "enumerate" (by decide +kernel)) (pa_cons (pv 1) pa_nil)) (pg_tup rfl (pgs_cons (pg_name (i := 6) scMulP.nd rfl (Or.inl rfl)) (pgs_cons (pg_name (i := 7) scMulP.nd rfl (Or.inl rfl)) pgs_nil)))
          (pss_one (ps_augS (pv 3) (pe_op op_add (pv 4) (pv 6)) get_list (pe_op op_mul (pv 5) (pv 7)) ip_add set_list)))))
      (pss_one (ps_ret (pe_call G1 hr rfl g1 F1.kp b1 .nil pass0 (pa_cons (pv 3) (pa_cons (pv 2) pa_nil))))))), ?_⟩
    refine ⟨by show 1 ≤ sizeLine; decide, fun z hz => ?_⟩
    have sz : Same H (upd H z (.lst [.int 0])) := same_upd hz
    have em : (((ones.map V.int).length : Int) + ((others.map V.int).length : Int) - 1) = ((ones.length + others.length - 1 : Nat) : Int) := by
      rw [List.length_map, List.length_map]
      omega
    refine ⟨_, rfl, a, _, rfl, .inr (sz.tup ha), _, rfl, b, _, rfl, .inr (sz.tup hb), _, _, rfl, rfl, _, _, rfl, rfl, z, _, _, rfl, rfl, upd_same, ?_⟩
    rw [em]
    refine ⟨by omega, by omega, ?_, fun D hD => ?_⟩
    · rw [Int.toNat_natCast]
      exact sl_1000 (by simp; omega)
    rw [Int.toNat_natCast, rep_flat]
    have nD : H D = none := sz.free hD
    have s1 : Same H (upd (upd H z (.lst [.int 0])) D (.lst (List.replicate (ones.length + others.length - 1) (V.int 0)))) := same_new sz hD
    refine ⟨_, rfl, a, ones.map V.int, rfl, s1.tup ha, ?_⟩
    refine for_it (walk_enumT (K := K) (a := a) (xs := ones.map V.int)) (fun i σ H2 => ∃ u4 u5 u6 u7, σ = [some (.ref a), some (.ref b), some (.ref c), some (.ref D), u4, u5, u6, u7] ∧ Same H H2 ∧ H2 D = some (.lst ((mulGo ones others i).map V.int))) ⟨none, none, none, none, rfl, s1, ?_⟩ (fun i σ H2 _ ⟨_, _, _, _, _, s2, _⟩ => s2.tup ha) ?_ ?_
    · rw [upd_same]
      simp [mulGo]
    · rintro i x σ H2 H3 hi ⟨u4, u5, u6, u7, rfl, s2, h2⟩ ⟨T, c1, y, rfl, hT, rfl, ec, ey⟩
      obtain ⟨one, rfl, hone⟩ := getI ey
      obtain rfl := Option.some.inj ec
      rw [List.length_map] at hi
      have s3 : Same H (upd H2 T (.tup [.int (i : Int), .int one])) := same_new s2 hT
      have h3 : upd H2 T (.tup [.int (i : Int), .int one]) D = some (.lst ((mulGo ones others i).map V.int)) := by rw [upd_ne (ne_of_none h2 hT)]; exact h2
      refine ⟨T, _, rfl, SqT.of upd_same, rfl, _, _, rfl, _, _, rfl, rfl, ?_⟩
      generalize hH3 : upd H2 T (.tup [.int (i : Int), .int one]) = H3 at s3 h3
      have gl := mulGo_len ones others i
      refine ⟨_, rfl, b, others.map V.int, rfl, s3.tup hb, ?_⟩
      refine for_it (walk_enumT (K := K) (a := b) (xs := others.map V.int)) (fun j σ H4 => ∃ v6 v7, σ = [some (.ref a), some (.ref b), some (.ref c), some (.ref D), some (.int (i : Int)), some (.int one), v6, v7] ∧ Same H H4 ∧ H4 D = some (.lst ((mulR one i others (mulGo ones others i) j).map V.int))) ⟨u6, u7, rfl, s3, h3⟩ (fun j σ H4 _ ⟨_, _, _, s4, _⟩ => s4.tup hb) ?_ ?_
      · rintro j v σ H4 H5 hj ⟨v6, v7, rfl, s4, h4⟩ ⟨T5, c5, y5, rfl, hT5, rfl, ec5, ey5⟩
        obtain ⟨other, rfl, hother⟩ := getI ey5
        obtain rfl := Option.some.inj ec5
        rw [List.length_map] at hj
        have s5 : Same H (upd H4 T5 (.tup [.int (j : Int), .int other])) := same_new s4 hT5
        have h5 : upd H4 T5 (.tup [.int (j : Int), .int other]) D = some (.lst ((mulR one i others (mulGo ones others i) j).map V.int)) := by rw [upd_ne (ne_of_none h4 hT5)]; exact h4
        have al := mulR_len one i others (mulGo ones others i) j
        have bo : CMul one other := ob.imp (fun z => z one (List.mem_of_getElem? hone)) (fun z => z other (List.mem_of_getElem? hother))
        refine ⟨T5, _, rfl, SqT.of upd_same, rfl, _, _, rfl, _, _, rfl, rfl, ?_⟩
        refine ⟨_, rfl, _, rfl, _, rfl, _, _, rfl, rfl, ?_⟩
        have ek : (i : Int) + (j : Int) = ((i + j : Nat) : Int) := by push_cast; rfl
        refine ⟨D, _, i + j, _, rfl, congrArg V.int ek, SqL.of h5, getD_of (by rw [al, gl]; omega), _, rfl, _, rfl, _, _, rfl, rfl, bo, _, _, rfl, rfl, D, _, _, i + j, rfl, rfl, h5, ?_, some (.int (j : Int)), some (.int other), rfl, same_at s5 nD, ?_⟩
        · rw [ek, List.length_map, al, gl]
          exact ixN_nat (by omega)
        · rw [upd_same]
          have e5 : others.getD j 0 = other := by rw [List.getD_eq_getElem?_getD, hother]; rfl
          show _ = some (HO.lst (((mulR one i others (mulGo ones others i) j).set (i + j) ((mulR one i others (mulGo ones others i) j).getD (i + j) 0 + one * others.getD j 0)).map V.int))
          rw [e5, List.map_set]
      · rintro σ H4 ⟨v6, v7, rfl, s4, h4⟩
        refine ⟨_, _, _, _, rfl, s4, ?_⟩
        rw [h4, List.length_map]
        have e3 : ones.getD i 0 = one := by rw [List.getD_eq_getElem?_getD, hone]; rfl
        show _ = some (HO.lst ((mulR (ones.getD i 0) i others (mulGo ones others i) others.length).map V.int))
        rw [e3]
    · rintro σ H2 ⟨u4, u5, u6, u7, rfl, s2, h2⟩
      rw [List.length_map] at h2
      have gl := mulGo_len ones others ones.length
      refine ⟨_, rfl, _, rfl, D, c, _, dv, rfl, SqL.of h2, s2.tup hc, d1, d2, by omega, db, fun t H3 s3 nt h3 => ?_⟩
      exact k t H3 (s2.trans s3) (s2.free nt) h3
end
end K08

namespace K08
open PySem PySem.Spec PyProof.Rows L2
theorem redL_len {xs dv : List Int} (h : 1 ≤ dv.length) : (redL xs dv).length = dv.length - 1 := by
  have := divL_le (xs := xs) h
  unfold redL
  rw [List.length_append, List.length_replicate]
  omega
theorem er_units : ∀ e ∈ ER, 1 ≤ (unitsL e).length ∧ (unitsL e).length ≤ 50 := by decide +kernel
section
variable {P : Program} {w : World} {K : PySem.W.Frag} {mg : Str → Option Value} {base : Heap} {f f1 f2 f3 f4 f5 C fI fM : Addr} {fd fd1 fd2 fd3 fd4 fd5 fdI : FuncData}
def spChkN (K : PySem.W.Frag) : Sp := fun vs H Q _ => ∃ (e : Int) (v : V) (n : Num), vs = [.int e, v] ∧ 1 ≤ e ∧ e ≤ 60 ∧ NumAt K H v n ∧ NumOk e n ∧ ∀ H', Same H H' → Q .non H'
theorem scChkN : FnScope ["order", "number"] ["order", "number"] (defScope sChkN) := ⟨rfl, rfl, rfl, by decide +kernel, rfl, by decide +kernel, by decide +kernel⟩
theorem ok_chkN (F : FnP K "check_number" sChkN f fd) (F1 : FnP K "is_number" sIsNum f1 fd1) (g1 : mg "is_number" = some (.ref f1)) (G1 : FnOk P w K mg base CX0 4 f1 fd1 ["order", "thing"] (spIsNum K (.bl true))) : FnOk P w K mg base CX0 5 f fd ["order", "number"] (spChkN K) := by
  have b1 : Binds K fd1 ["order", "thing"] [] := F1.bindsN fun _ _ _ _ _ _ us hl => match us, hl with | [_, _], _ => rfl
  refine F.ok scChkN (fun vs H Q E h => ?_) (fun cdv A outer s H vs Q E hr h => ?_)
  · obtain ⟨e, v, n, rfl, _⟩ := h
    rfl
  · obtain ⟨e, v, n, rfl, h1, h2, hv, ok, k⟩ := h
    refine ⟨_, PSs.nox (pss_one (ps_if (pt_not (pt_val (pe_call G1 hr rfl g1 F1.kp b1 .nil pass0 (pa_cons (pv 0) (pa_cons (pv 1) pa_nil))))) (pss_one ps_never) pss_nil)), ?_⟩
    exact ⟨_, rfl, _, rfl, e, _, n, rfl, h1, h2, hv, ok, fun H1 s1 => ⟨_, rfl, iteF (k H1 s1)⟩⟩
def spProd (K : PySem.W.Frag) : Sp := fun vs H Q _ => ∃ (e : Int) (v u : V) (a b : Num), vs = [.int e, v, u] ∧ e ∈ ER ∧ NumAt K H v a ∧ NumAt K H u b ∧ a.1.length = (unitsL e).length ∧ b.1.length = (unitsL e).length ∧ 1 ≤ a.2 ∧ a.2 ≤ 1000 ∧ 1 ≤ b.2 ∧ b.2 ≤ 1000 ∧ ((∀ t ∈ a.1, -(2 ^ 64) < t ∧ t < 2 ^ 64) ∨ ∀ t ∈ b.1, -(2 ^ 64) < t ∧ t < 2 ^ 64) ∧
  ∀ v' H', Same H H' → NumAt K H' v' (prodL e a b) → Q v' H'
abbrev prN : List Str := ["order", "one", "other", "ones", "bottom", "others", "other_bottom"]
theorem scProd : FnScope prN ["order", "one", "other"] (defScope sProd) := ⟨rfl, rfl, rfl, by decide +kernel, rfl, by decide +kernel, by decide +kernel⟩
theorem ok_prod (F : FnP K "_product" sProd f fd) (F1 : FnP K "multiplied" sMulP f1 fd1) (g1 : mg "multiplied" = some (.ref f1)) (G1 : FnOk P w K mg base CX0 3 f1 fd1 ["ones", "others", "polynomial"] (spMulP K)) (F2 : FnP K "polynomial_of" sPoly f2 fd2) (g2 : mg "polynomial_of" = some (.ref f2)) (G2 : FnOk P w K mg base CX0 2 f2 fd2 ["order"] (spPoly K))
    (F3 : FnP K "lowered" sLow f3 fd3) (g3 : mg "lowered" = some (.ref f3)) (G3 : FnOk P w K mg base CX0 1 f3 fd3 ["tops", "bottom"] (spLow K)) : FnOk P w K mg base CX0 4 f fd ["order", "one", "other"] (spProd K) := by
  have b1 : Binds K fd1 ["ones", "others", "polynomial"] [] := F1.bindsN fun _ _ _ _ _ _ us hl => match us, hl with | [_, _, _], _ => rfl
  have b2 : Binds K fd2 ["order"] [] := F2.bindsN fun _ _ _ _ _ _ us hl => match us, hl with | [_], _ => rfl
  have b3 : Binds K fd3 ["tops", "bottom"] [] := F3.bindsN fun _ _ _ _ _ _ us hl => match us, hl with | [_, _], _ => rfl
  refine F.ok scProd (fun vs H Q E h => ?_) (fun cdv A outer s H vs Q E hr h => ?_)
  · obtain ⟨e, v, u, a, b, rfl, _⟩ := h
    rfl
  · obtain ⟨e, v, u, a, b, rfl, he, hv, hu, la, lb, a1, a2, c1, c2, bb, k⟩ := h
    refine ⟨_, PSs.nox (pss_cons (ps_asg (pv 1) (pg_tup rfl (pgs_cons (pg_name (i := 3) scProd.nd rfl (Or.inl rfl)) (pgs_cons (pg_name (i := 4) scProd.nd rfl (Or.inl rfl)) pgs_nil))))
      (pss_cons (ps_asg (pv 2) (pg_tup rfl (pgs_cons (pg_name (i := 5) scProd.nd rfl (Or.inl rfl)) (pgs_cons (pg_name (i := 6) scProd.nd rfl (Or.inl rfl)) pgs_nil))))
      (pss_one (ps_ret (pe_call G3 (hr.mono (by decide)) rfl g3 F3.kp b3 .nil pass0 (pa_cons (pe_call G1 hr rfl g1 F1.kp b1 .nil pass0 (pa_cons (pv 3) (pa_cons (pv 5) (pa_cons (pe_call G2 (hr.mono (by decide)) rfl g2 F2.kp b2 .nil pass0 (pa_cons (pv 0) pa_nil)) pa_nil)))) (pa_cons (pe_op op_mul (pv 4) (pv 6)) pa_nil))))))), ?_⟩
    obtain ⟨p, t, rfl, hp, ht⟩ := hv
    obtain ⟨p2, t2, rfl, hp2, ht2⟩ := hu
    have ep := er_poly e he
    have eb := er_bd e he
    have eu := er_units e he
    refine ⟨_, rfl, p, _, rfl, hp, rfl, _, _, rfl, _, _, rfl, rfl, ?_⟩
    refine ⟨_, rfl, p2, _, rfl, hp2, rfl, _, _, rfl, _, _, rfl, rfl, ?_⟩
    refine ⟨_, rfl, _, rfl, _, rfl, e, rfl, he, fun po H1 s1 npo h1 => ?_⟩
    refine ⟨t, t2, po, a.1, b.1, polyL e, rfl, s1.tup ht, s1.tup ht2, SqT.of h1, ep.1, by omega, ep.2.2, by omega, by omega, by omega, by omega, bb, fun m H2 s2 nm h2 => ?_⟩
    have q1 : 1 * 1 ≤ a.2 * b.2 := Int.mul_le_mul a1 c1 (by decide) (by omega)
    have q2 : a.2 * b.2 ≤ 1000 * 1000 := Int.mul_le_mul a2 c2 (by omega) (by decide)
    refine ⟨_, rfl, _, rfl, _, _, rfl, rfl, Or.inl ⟨by omega, by omega⟩, m, mulL a.1 b.1 (polyL e), a.2 * b.2, rfl, .inr (SqT.of h2), by omega, by omega, ?_, fun v' H3 s3 hv' => ?_⟩
    · unfold mulL
      rw [redL_len (by omega)]
      omega
    · exact k v' H3 ((s1.trans s2).trans s3) hv'
def spTimes (K : PySem.W.Frag) : Sp := fun vs H Q _ => ∃ (e : Int) (v u : V) (a b : Num), vs = [.int e, v, u] ∧ e ∈ ER ∧ NumAt K H v a ∧ NumAt K H u b ∧ NumOk e a ∧ NumOk e b ∧ ((∀ t ∈ a.1, -(2 ^ 64) < t ∧ t < 2 ^ 64) ∨ ∀ t ∈ b.1, -(2 ^ 64) < t ∧ t < 2 ^ 64) ∧ ∀ v' H', Same H H' → NumAt K H' v' (prodL e a b) → Q v' H'
theorem scTimes : FnScope ["order", "one", "other"] ["order", "one", "other"] (defScope sTimes) := ⟨rfl, rfl, rfl, by decide +kernel, rfl, by decide +kernel, by decide +kernel⟩
theorem ok_times (F : FnP K "times" sTimes f fd) (F1 : FnP K "check_number" sChkN f1 fd1) (g1 : mg "check_number" = some (.ref f1)) (G1 : FnOk P w K mg base CX0 5 f1 fd1 ["order", "number"] (spChkN K)) (F2 : FnP K "_product" sProd f2 fd2) (g2 : mg "_product" = some (.ref f2)) (G2 : FnOk P w K mg base CX0 4 f2 fd2 ["order", "one", "other"] (spProd K)) : FnOk P w K mg base CX0 6 f fd ["order", "one", "other"] (spTimes K) := by
  have b1 : Binds K fd1 ["order", "number"] [] := F1.bindsN fun _ _ _ _ _ _ us hl => match us, hl with | [_, _], _ => rfl
  have b2 : Binds K fd2 ["order", "one", "other"] [] := F2.bindsN fun _ _ _ _ _ _ us hl => match us, hl with | [_, _, _], _ => rfl
  refine F.ok scTimes (fun vs H Q E h => ?_) (fun cdv A outer s H vs Q E hr h => ?_)
  · obtain ⟨e, v, u, a, b, rfl, _⟩ := h
    rfl
  · obtain ⟨e, v, u, a, b, rfl, he, hv, hu, oa, ob, bb, k⟩ := h
    refine ⟨_, PSs.nox (pss_cons (ps_expr (pe_call G1 hr rfl g1 F1.kp b1 .nil pass0 (pa_cons (pv 0) (pa_cons (pv 1) pa_nil))))
      (pss_cons (ps_expr (pe_call G1 hr rfl g1 F1.kp b1 .nil pass0 (pa_cons (pv 0) (pa_cons (pv 2) pa_nil))))
      (pss_one (ps_ret (pe_call G2 (hr.mono (by decide)) rfl g2 F2.kp b2 .nil pass0 (pa_cons (pv 0) (pa_cons (pv 1) (pa_cons (pv 2) pa_nil)))))))), ?_⟩
    have eb := er_bd e he
    refine ⟨_, rfl, _, rfl, e, _, a, rfl, by omega, by omega, hv, oa, fun H1 s1 => ?_⟩
    refine ⟨_, rfl, _, rfl, e, _, b, rfl, by omega, by omega, s1.num hu, ob, fun H2 s2 => ?_⟩
    have t := s1.trans s2
    exact ⟨_, rfl, _, rfl, _, rfl, e, _, _, a, b, rfl, he, t.num hv, t.num hu, oa.len, ob.len, oa.pos, oa.big, ob.pos, ob.big, bb, fun v' H3 s3 hv' => k v' H3 (t.trans s3) hv'⟩
end
end K08

/-! plus; voice; row_back. -/
namespace K08
open PySem PySem.Spec PyProof.Rows L2
section
variable {P : Program} {w : World} {K : PySem.W.Frag} {mg : Str → Option Value} {base : Heap} {f f1 f2 f3 f4 f5 C fI fM : Addr} {fd fd1 fd2 fd3 fd4 fd5 fdI : FuncData}
def spSumN (K : PySem.W.Frag) : Sp := fun vs H Q _ => ∃ (v u : V) (a b : Num) (sg : Int), vs = [v, u, .int sg] ∧ NumAt K H v a ∧ NumAt K H u b ∧ -1 ≤ sg ∧ sg ≤ 1 ∧ a.1.length = b.1.length ∧ a.1.length ≤ 1000 ∧ 1 ≤ a.2 ∧ a.2 ≤ 1000 ∧ 1 ≤ b.2 ∧ b.2 ≤ 1000 ∧ ∀ v' H', Same H H' → NumAt K H' v' (sumN a b sg) → Q v' H'
abbrev suN : List Str := ["one", "other", "sign", "ones", "bottom", "others", "other_bottom", "tops", "k"]
theorem scSumN : FnScope suN ["one", "other", "sign"] (defScope sSumN) := ⟨rfl, rfl, rfl, by decide +kernel, rfl, by decide +kernel, by decide +kernel⟩
theorem ok_sumN (F : FnP K "_sum" sSumN f fd) (B : Bl mg) (F1 : FnP K "lowered" sLow f1 fd1) (g1 : mg "lowered" = some (.ref f1)) (G1 : FnOk P w K mg base CX0 1 f1 fd1 ["tops", "bottom"] (spLow K)) : FnOk P w K mg base CX0 2 f fd ["one", "other", "sign"] (spSumN K) := by
  have b1 : Binds K fd1 ["tops", "bottom"] [] := F1.bindsN fun _ _ _ _ _ _ us hl => match us, hl with | [_, _], _ => rfl
  refine F.ok scSumN (fun vs H Q E h => ?_) (fun cdv A outer s H vs Q E hr h => ?_)
  · obtain ⟨v, u, a, b, sg, rfl, _⟩ := h
    rfl
  · obtain ⟨v, u, a, b, sg, rfl, hv, hu, g1', g2', hl, hl2, a1, a2, c1, c2, k⟩ := h
    refine ⟨_, PSs.nox (pss_cons (ps_asg (pv 0) (pg_tup rfl (pgs_cons (pg_name (i := 3) scSumN.nd rfl (Or.inr rfl)) (pgs_cons (pg_name (i := 4) scSumN.nd rfl (Or.inr rfl)) pgs_nil))))
      (pss_cons (ps_asg (pv 1) (pg_tup rfl (pgs_cons (pg_name (i := 5) scSumN.nd rfl (Or.inr rfl)) (pgs_cons (pg_name (i := 6) scSumN.nd rfl (Or.inr rfl)) pgs_nil))))
      (pss_cons (ps_setLc (i := 7) (own := [("k", 8)]) (g := gName 8) (tt := tYes) (te := tOp (rI0 fun i j => .int (i + j)) (tOp rMul (tOp (rIxT K) (tVar 3) (tVar 8)) (tVar 6)) (tOp rMul (tOp rMul (tVar 2) (tOp (rIxT K) (tVar 5) (tVar 8))) (tVar 4))) rfl scSumN.nd rfl rfl (sw_true rfl rfl rfl (by decide +kernel)) (pi_range1 rfl (B "range" (by decide +kernel)) (pa_cons (pe_callB call_len_seq (by rfl) (B "len" (by decide +kernel)) PySem.boot_len (pa_cons (pv 3) pa_nil)) pa_nil)) (blkOk_by (own := [("k", 8)]) (N := suN) (sc := defScope sSumN) (by decide +kernel))
          (fun _ _ _ _ _ => pg_name (i := 8) scSumN.nd rfl (Or.inl rfl)) (fun _ _ _ _ _ => pts_nil)
          (fun _ _ _ _ _ => pe_op op_add (pe_op op_mul (pe_ix ix_tup (pv 3) (pv 8) (fun _ _ => rfl)) (pv 6)) (pe_op op_mul (pe_op op_mul (pv 2) (pe_ix ix_tup (pv 5) (pv 8) (fun _ _ => rfl))) (pv 4))))
      (pss_one (ps_ret (pe_call G1 hr rfl g1 F1.kp b1 .nil pass0 (pa_cons (pv 7) (pa_cons (pe_op op_mul (pv 4) (pv 6)) pa_nil)))))))), ?_⟩
    obtain ⟨p, t, rfl, hp, ht⟩ := hv
    obtain ⟨p2, t2, rfl, hp2, ht2⟩ := hu
    refine ⟨_, rfl, p, _, rfl, hp, rfl, _, _, rfl, _, _, rfl, rfl, ?_⟩
    refine ⟨_, rfl, p2, _, rfl, hp2, rfl, _, _, rfl, _, _, rfl, rfl, ?_⟩
    refine ⟨_, rfl, t, _, rfl, .inr ht, _, rfl, by rw [List.length_map]; omega, by rw [List.length_map]; omega, fun D hD => ?_⟩
    have en : ((a.1.map V.int).length : Int).toNat = a.1.length := by rw [List.length_map]; omega
    rw [en]
    refine lc_range (lo := 0) (n := a.1.length) (fun i H2 => Same H H2 ∧ H2 D = some (.lst (((List.range i).map fun k => a.1.getD k 0 * b.2 + sg * b.1.getD k 0 * a.2).map V.int))) ⟨same_upd hD, upd_same⟩ ?_ ?_
    · rintro i H2 hi ⟨s2, h2⟩
      have e0 : (0 : Int) + (i : Int) = (i : Int) := Int.zero_add _
      refine ⟨rfl, _, rfl, _, rfl, t, _, _, _, rfl, rfl, s2.tup ht, by rw [e0]; exact atI_nat (getD_of (by omega)), _, rfl, _, _, rfl, rfl, Or.inr ⟨by omega, by omega⟩, _, rfl, _, rfl, _, rfl, t2, _, _, _, rfl, rfl, s2.tup ht2, by rw [e0]; exact atI_nat (getD_of (by omega)), _, _, rfl, rfl, Or.inl ⟨by omega, by omega⟩, _, rfl, _, _, rfl, rfl, Or.inr ⟨by omega, by omega⟩, _, _, rfl, rfl, ?_⟩
      refine ⟨_, h2, sl_lt (by rw [List.length_map, List.length_map, List.length_range]; omega), same_at s2 hD, ?_⟩
      rw [upd_same, List.range_succ, List.map_append, List.map_append]
      rfl
    · rintro H2 ⟨s2, h2⟩
      have q1 : 1 * 1 ≤ a.2 * b.2 := Int.mul_le_mul a1 c1 (by decide) (by omega)
      have q2 : a.2 * b.2 ≤ 1000 * 1000 := Int.mul_le_mul a2 c2 (by omega) (by decide)
      refine ⟨_, rfl, _, rfl, _, rfl, _, _, rfl, rfl, Or.inl ⟨by omega, by omega⟩, D, sumT a b sg, a.2 * b.2, rfl, .inl (SqL.of h2), by omega, by omega, by unfold sumT; rw [List.length_map, List.length_range]; omega, fun v' H3 s3 hv' => ?_⟩
      exact k v' H3 (s2.trans s3) hv'
def spPlus (K : PySem.W.Frag) : Sp := fun vs H Q _ => ∃ (e : Int) (v u : V) (a b : Num), vs = [.int e, v, u] ∧ e ∈ ER ∧ NumAt K H v a ∧ NumAt K H u b ∧ NumOk e a ∧ NumOk e b ∧ ∀ v' H', Same H H' → NumAt K H' v' (sumN a b 1) → Q v' H'
theorem scPlus : FnScope ["order", "one", "other"] ["order", "one", "other"] (defScope sPlus) := ⟨rfl, rfl, rfl, by decide +kernel, rfl, by decide +kernel, by decide +kernel⟩
theorem ok_plus (F : FnP K "plus" sPlus f fd) (F1 : FnP K "check_number" sChkN f1 fd1) (g1 : mg "check_number" = some (.ref f1)) (G1 : FnOk P w K mg base CX0 5 f1 fd1 ["order", "number"] (spChkN K)) (F2 : FnP K "_sum" sSumN f2 fd2) (g2 : mg "_sum" = some (.ref f2)) (G2 : FnOk P w K mg base CX0 2 f2 fd2 ["one", "other", "sign"] (spSumN K)) : FnOk P w K mg base CX0 6 f fd ["order", "one", "other"] (spPlus K) := by
  have b1 : Binds K fd1 ["order", "number"] [] := F1.bindsN fun _ _ _ _ _ _ us hl => match us, hl with | [_, _], _ => rfl
  have b2 : Binds K fd2 ["one", "other", "sign"] [] := F2.bindsN fun _ _ _ _ _ _ us hl => match us, hl with | [_, _, _], _ => rfl
  refine F.ok scPlus (fun vs H Q E h => ?_) (fun cdv A outer s H vs Q E hr h => ?_)
  · obtain ⟨e, v, u, a, b, rfl, _⟩ := h
    rfl
  · obtain ⟨e, v, u, a, b, rfl, he, hv, hu, oa, ob, k⟩ := h
    refine ⟨_, PSs.nox (pss_cons (ps_expr (pe_call G1 hr rfl g1 F1.kp b1 .nil pass0 (pa_cons (pv 0) (pa_cons (pv 1) pa_nil))))
      (pss_cons (ps_expr (pe_call G1 hr rfl g1 F1.kp b1 .nil pass0 (pa_cons (pv 0) (pa_cons (pv 2) pa_nil))))
      (pss_one (ps_ret (pe_call G2 (hr.mono (by decide)) rfl g2 F2.kp b2 .nil pass0 (pa_cons (pv 1) (pa_cons (pv 2) (pa_cons pe_int pa_nil)))))))), ?_⟩
    have eb := er_bd e he
    have eu := er_units e he
    have la := oa.len
    have lb := ob.len
    refine ⟨_, rfl, _, rfl, e, _, a, rfl, by omega, by omega, hv, oa, fun H1 s1 => ?_⟩
    refine ⟨_, rfl, _, rfl, e, _, b, rfl, by omega, by omega, s1.num hu, ob, fun H2 s2 => ?_⟩
    have t := s1.trans s2
    exact ⟨_, rfl, _, rfl, _, _, a, b, 1, rfl, t.num hv, t.num hu, by decide, by decide, by omega, by omega, oa.pos, oa.big, ob.pos, ob.big, fun v' H3 s3 hv' => k v' H3 (t.trans s3) hv'⟩
end
end K08

/-! row_behind. -/
namespace K08
open PySem PySem.Spec PyProof.Rows L2
def rLenS (K : PySem.W.Frag) : List V → Hp → VK → Prop := fun xs H Q => ∃ p ys, xs = [.ref p] ∧ (SqL K H p ys ∨ SqT K H p ys) ∧ Q (.int ys.length) H
theorem rr_pl1 : ∀ r ∈ RR, 1 ≤ (placesL r).length := by decide +kernel
section
variable {P : Program} {w : World} {K : PySem.W.Frag} {mg : Str → Option Value} {base : Heap} {f f1 f2 f3 f4 f5 C fI fM : Addr} {fd fd1 fd2 fd3 fd4 fd5 fdM : FuncData}
def spRB (K : PySem.W.Frag) (C : Addr) : Sp := fun vs H Q _ => ∃ (p : Addr) (v : V) (r : List Int) (ns : List Num), vs = [.ref p, v] ∧ FloorAt K C H p r ∧ RowAt K H v ns ∧ r ∈ RR ∧ RowOk r ns ∧ ∀ v' H', Same H H' → RowAt K H' v' (rbL r ns) → Q v' H'
abbrev rbN : List Str := ["floor", "row", "items", "bottom", "sums", "place", "tops"]
theorem scRB : FnScope rbN ["floor", "row"] (defScope sBehind) := ⟨rfl, rfl, rfl, by decide +kernel, rfl, by decide +kernel, by decide +kernel⟩
theorem ok_behind (F : FnP K "row_behind" sBehind f fd) (B : Bl mg) (T : FlT K mg C fI fM)
    (F1 : FnP K "levelled" sLev f1 fd1) (g1 : mg "levelled" = some (.ref f1)) (G1 : FnOk P w K mg base CX0 1 f1 fd1 ["numbers"] (spLev K))
    (F2 : FnP K "turned_sum" sTSum f2 fd2) (g2 : mg "turned_sum" = some (.ref f2)) (G2 : FnOk P w K mg base CX0 3 f2 fd2 ["floor", "items", "places", "label", "sign"] (spTS K C))
    (F3 : FnP K "lowered" sLow f3 fd3) (g3 : mg "lowered" = some (.ref f3)) (G3 : FnOk P w K mg base CX0 1 f3 fd3 ["tops", "bottom"] (spLow K)) :
    FnOk P w K mg base CX0 4 f fd ["floor", "row"] (spRB K C) := by
  have b1 : Binds K fd1 ["numbers"] [] := F1.bindsN fun _ _ _ _ _ _ us hl => match us, hl with | [_], _ => rfl
  have b2 : Binds K fd2 ["floor", "items", "places", "label", "sign"] [] := F2.bindsN fun _ _ _ _ _ _ us hl => match us, hl with | [_, _, _, _, _], _ => rfl
  have b3 : Binds K fd3 ["tops", "bottom"] [] := F3.bindsN fun _ _ _ _ _ _ us hl => match us, hl with | [_, _], _ => rfl
  refine F.ok scRB (fun vs H Q E h => ?_) (fun cdv A outer s H vs Q E hr h => ?_)
  · obtain ⟨p, v, r, ns, rfl, _⟩ := h
    rfl
  · obtain ⟨p, v, r, ns, rfl, hF, hR, h14, ro, k⟩ := h
    refine ⟨_, PSs.nox (pss_cons (ps_asg (pe_call G1 (hr.mono (by decide)) rfl g1 F1.kp b1 .nil pass0 (pa_cons (pv 1) pa_nil)) (pg_tup rfl (pgs_cons (pg_name (i := 2) scRB.nd rfl (Or.inr rfl)) (pgs_cons (pg_name (i := 3) scRB.nd rfl (Or.inr rfl)) pgs_nil))))
      (pss_cons (ps_set (i := 4) scRB.nd rfl (Or.inr rfl) (pe_lc (own := [("place", 5)]) (g := gName 5) (tt := tYes) (te := tCall (spTS K C) [] E0 (tCons (tVar 0) (tCons (tVar 2) (tCons (tFld K (tVar 0) "places") (tCons (tVar 5) (tCons (tUn (rU fun i => .int (-i)) (tC (.int 1))) tNil)))))) rfl scRB.nd (pi_list (pe_fld (pv 0) rfl)) (blkOk_by (own := [("place", 5)]) (N := rbN) (sc := defScope sBehind) (by decide +kernel))
          (fun _ _ _ _ _ => pg_name (i := 5) scRB.nd rfl (Or.inl rfl)) (fun _ _ _ _ _ => pts_nil)
          (fun _ _ _ _ _ => pe_call G2 hr rfl g2 F2.kp b2 .nil pass0 (pa_cons (pv 0) (pa_cons (pv 2) (pa_cons (pe_fld (pv 0) rfl) (pa_cons (pv 5) (pa_cons (pe_un un_neg pe_int) pa_nil))))))))
      (pss_one (ps_ret (pe_callTy call_tuple_of (by rfl) (B "tuple" (by decide +kernel)) (by decide +kernel) (pa_cons
        (pe_lc (own := [("tops", 6)]) (g := gName 6) (tt := tYes) (te := tCall (spLow K) [] E0 (tCons (tVar 6) (tCons (tOp rMul (tVar 3) (tCB (rLenS K) (tCons (tVar 4) tNil))) tNil))) rfl scRB.nd (pi_list (pv 4)) (blkOk_by (own := [("tops", 6)]) (N := rbN) (sc := defScope sBehind) (by decide +kernel))
          (fun _ _ _ _ _ => pg_name (i := 6) scRB.nd rfl (Or.inl rfl)) (fun _ _ _ _ _ => pts_nil)
          (fun _ _ _ _ _ => pe_call G3 (hr.mono (by decide)) rfl g3 F3.kp b3 .nil pass0 (pa_cons (pv 6) (pa_cons (pe_op op_mul (pv 3) (pe_callB call_len_seq (by rfl) (B "len" (by decide +kernel)) PySem.boot_len (pa_cons (pv 4) pa_nil))) pa_nil)))) pa_nil)))))), ?_⟩
    obtain ⟨dx, ar, po, pl, h1, h2, h3, h4⟩ := id hF
    obtain ⟨kp, hk1, hk2, hk3⟩ := id h4
    have eb := er_bd _ (er_in r h14)
    have hr16 := rr_pl0 r h14
    have bB := ro.lev ns.length (Nat.le_refl _)
    rw [List.take_length] at bB
    have hns := ro.len
    refine ⟨_, rfl, v, ns, rfl, hR, by omega, ro.item, ro.lev, fun pt t ts H1 s1 hpt nt ht tt => ?_⟩
    refine ⟨pt, _, rfl, hpt, rfl, _, _, rfl, _, _, rfl, rfl, ?_⟩
    have s1f := s1 _ _ h1
    refine ⟨_, rfl, p, C, dx, _, _, rfl, s1f, T.cl, T.aL, g_places, pl, rfl, ⟨_, SqL.of (s1 _ _ hk1)⟩, fun D hD => ?_⟩
    have hkl : (rf kp).length = (placesL r).length := by rw [← hk2, List.length_map, List.length_map]
    have sD : Same H1 (upd H1 D (.lst [])) := same_upd hD
    have few : ∀ ts ∈ levT ns, ts.length ≤ 1000 := fun ts hts => by
      unfold levT at hts
      obtain ⟨n, hn, rfl⟩ := List.mem_map.mp hts
      rw [List.length_map]
      exact (ro.item n hn).2.2
    have lvl : (levT ns).length = (placesL r).length := by
      unfold levT
      rw [List.length_map, ro.len]
    refine lc_list (K := K) (a := pl) (xs := rf kp) (fun i H2 => Same H1 H2 ∧ ∃ ks, H2 D = some (.lst (rf ks)) ∧ TL K H2 ks ∧ ks.map (·.2) = ((placesL r).take i).map fun l => tsL r (-1) l (levT ns)) ⟨sD, [], upd_same, tl_nil, rfl⟩ (fun i H2 _ ⟨s2, _⟩ => SqL.of (s2 _ _ (s1 _ _ hk1))) ?_ ?_
    · rintro i y H2 hi ⟨s2, ks, hD2, tk, ek⟩
      obtain ⟨q, rfl, hq⟩ := getR hi
      have hqm := List.mem_of_getElem? hq
      have hq2 : (placesL r)[i]? = some q.2 := by rw [← hk2, List.getElem?_map, hq]; rfl
      have hqp : q.2 ∈ placesL r := List.mem_of_getElem? hq2
      have s12 := s1.trans s2
      refine ⟨rfl, _, rfl, _, rfl, _, rfl, p, C, dx, _, _, rfl, s12 _ _ h1, T.cl, T.aL, g_places, _, rfl, _, rfl, p, t, pl, .ref q.1, ts, r, q.2, levT ns, -1, rfl, by decide, by decide, s12.floor hF, SqL.of (s2 _ _ ht), tt.same s2, s12.pll h4, ⟨q.1, rfl, s12.tup (hk3 q hqm)⟩, hqp, h14, lvl, few, fun t2 H3 s3 nt2 ht2 => ?_⟩
      have kl : ks.length = ((placesL r).take i).length := by
        have := congrArg List.length ek
        rw [List.length_map, List.length_map] at this
        exact this
      refine ⟨_, s3 _ _ hD2, sl_lt (by rw [List.length_map, kl, List.length_take]; omega), same_at (s2.trans s3) hD, ks ++ [(t2, tsL r (-1) q.2 (levT ns))], ?_, ?_, ?_⟩
      · rw [upd_same, rf_snoc]
      · exact tl_at (tl_snoc (s3.tl tk) (SqT.of ht2)) (s3 _ _ hD2)
      · rw [List.map_append, ek, takeS hq2, List.map_append]
        rfl
    · rintro H2 ⟨s2, ks, hD2, tk, ek⟩
      rw [hkl, List.take_length] at ek
      have s12 := s1.trans s2
      refine ⟨_, rfl, D, rfl, ⟨_, SqL.of hD2⟩, fun D3 hD3 => ?_⟩
      have kl : ks.length = (placesL r).length := by
        have := congrArg List.length ek
        rw [List.length_map, List.length_map] at this
        exact this
      refine lc_list (K := K) (a := D) (xs := rf ks) (fun i H3 => Same H2 H3 ∧ ∃ us, H3 D3 = some (.lst us) ∧ Nums K H3 us ((rbL r ns).take i)) ⟨same_upd hD3, [], upd_same, by rw [List.take_zero]; exact nums_nil⟩ (fun i H3 _ ⟨s3, _⟩ => SqL.of (s3 _ _ hD2)) ?_ ?_
      · rintro i y H3 hi ⟨s3, us, h3', tn⟩
        obtain ⟨q, rfl, hq⟩ := getR hi
        have hqm := List.mem_of_getElem? hq
        have eq2 : ∃ l, (placesL r)[i]? = some l ∧ q.2 = tsL r (-1) l (levT ns) := by
          have e : (ks.map (·.2))[i]? = some q.2 := by rw [List.getElem?_map, hq]; rfl
          rw [ek, List.getElem?_map] at e
          cases hl : (placesL r)[i]? with
          | none =>
            rw [hl] at e
            cases e
          | some l =>
            rw [hl] at e
            exact ⟨l, rfl, (Option.some.inj e).symm⟩
        obtain ⟨l, hl, el⟩ := eq2
        have hkl2 : (rf ks).length = (placesL r).length := by rw [List.length_map, kl]
        have pl1 := rr_pl1 r h14
        generalize hn : (placesL r).length = n at *
        have m1' : 1 * 1 ≤ levB ns * (n : Int) := Int.mul_le_mul bB.1 (by omega) (by decide) (by omega)
        have m2' : levB ns * (n : Int) ≤ 1000 * 16 := Int.mul_le_mul bB.2 (by omega) (by omega) (by decide)
        refine ⟨rfl, _, rfl, _, rfl, _, rfl, D, rf ks, rfl, .inl (SqL.of (s3 _ _ hD2)), _, _, rfl, rfl, Or.inl ⟨by omega, by omega⟩, q.1, q.2, levB ns * (n : Int), by rw [hkl2]; rfl, .inr (s3.tup (tk q hqm)), by omega, by omega, by rw [el]; exact tsL_len h14 _ _ _, fun v2 H4 s4 hv2 => ?_⟩
        have ev : (rbL r ns)[i]? = some (lowL q.2 (levB ns * (n : Int))) := by
          unfold rbL
          rw [List.getElem?_map, hl, el, hn]
          rfl
        have ul := tn.1
        rw [List.length_take] at ul
        refine ⟨us, s4 _ _ h3', sl_lt (by have := ltL hq; omega), same_at (s3.trans s4) hD3, us ++ [v2], upd_same, ?_⟩
        rw [takeS ev]
        have tn4 := s4.nums tn
        have num_up : ∀ {v : V} {n : Num}, NumAt K H4 v n → NumAt K (upd H4 D3 (.lst (us ++ [v2]))) v n := fun ⟨p', t', e', q1, q2⟩ => ⟨p', t', e', sqt_at q1 (s4 _ _ h3'), sqt_at q2 (s4 _ _ h3')⟩
        exact Nums.snoc ⟨tn4.1, fun i v n e1 e2 => num_up (tn4.2 i v n e1 e2)⟩ (num_up hv2)
      · rintro H3 ⟨s3, us, h3', tn⟩
        have vl : (rbL r ns).length = (placesL r).length := by
          unfold rbL
          rw [List.length_map]
        rw [List.length_map, kl, ← vl, List.take_length] at tn
        refine ⟨D3, us, rfl, .inl ⟨SqL.of h3', fun p2 hp2 => ?_⟩⟩
        have sp : Same H3 (upd H3 p2 (.tup us)) := same_upd hp2
        exact k _ _ (((s12.trans s3)).trans sp) ⟨p2, us, rfl, SqT.of upd_same, sp.nums tn⟩
end
end K08

/-! row_back, voice. -/
namespace K08
open PySem PySem.Spec PyProof.Rows L2
section
variable {P : Program} {w : World} {K : PySem.W.Frag} {mg : Str → Option Value} {base : Heap} {f f1 f2 f3 f4 f5 C fI fM : Addr} {fd fd1 fd2 fd3 fd4 fd5 fdI : FuncData}
def spBack (K : PySem.W.Frag) : Sp := fun vs H Q _ => ∃ (v u : V) (r : List Int) (ns : List Num), vs = [v, u] ∧ TupI K H v r ∧ RowAt K H u ns ∧ r ∈ RR ∧ RowG r ns ∧ ∀ v' H', Same H H' → RowAt K H' v' (rbL r ns) → Q v' H'
theorem scBack : FnScope ["rings", "row"] ["rings", "row"] (defScope sBack) := ⟨rfl, rfl, rfl, by decide +kernel, rfl, by decide +kernel, by decide +kernel⟩
theorem ok_back (F : FnP K "row_back" sBack f fd) (T : FlT K mg C fI fM) (FI : FunD K "__init__" "Floor.__init__" (defArgs sFInit) (defBody sFInit) (defScope sFInit) [] [] fI fdI) (GI : FnOk P w K mg base CX0 3 fI fdI ["self", "rings"] (spFInit K C))
    (F1 : FnP K "check_row" sChkRow f1 fd1) (g1 : mg "check_row" = some (.ref f1)) (G1 : FnOk P w K mg base CX0 7 f1 fd1 ["rings", "row"] (spRow K .non)) (F2 : FnP K "row_behind" sBehind f2 fd2) (g2 : mg "row_behind" = some (.ref f2)) (G2 : FnOk P w K mg base CX0 4 f2 fd2 ["floor", "row"] (spRB K C)) :
    FnOk P w K mg base CX0 8 f fd ["rings", "row"] (spBack K) := by
  have bI : Binds K fdI ["self", "rings"] [] := FI.bindsN fun _ _ _ _ _ _ us hl => match us, hl with | [_, _], _ => rfl
  have b1 : Binds K fd1 ["rings", "row"] [] := F1.bindsN fun _ _ _ _ _ _ us hl => match us, hl with | [_, _], _ => rfl
  have b2 : Binds K fd2 ["floor", "row"] [] := F2.bindsN fun _ _ _ _ _ _ us hl => match us, hl with | [_, _], _ => rfl
  refine F.ok scBack (fun vs H Q E h => ?_) (fun cdv A outer s H vs Q E hr h => ?_)
  · obtain ⟨v, u, r, ns, rfl, _⟩ := h
    rfl
  · obtain ⟨v, u, r, ns, rfl, ⟨a, rfl, ha⟩, hR, h14, ro, k⟩ := h
    refine ⟨_, PSs.nox (pss_cons (ps_expr (pe_call G1 hr rfl g1 F1.kp b1 .nil pass0 (pa_cons (pv 0) (pa_cons (pv 1) pa_nil))))
      (pss_one (ps_ret (pe_call G2 (hr.mono (by decide)) rfl g2 F2.kp b2 .nil pass0 (pa_cons (pe_make T.mkk GI (hr.mono (by decide)) rfl T.mgC bI .nil pass0 (pa_cons (pv 0) pa_nil)) (pa_cons (pv 1) pa_nil)))))), ?_⟩
    refine ⟨_, rfl, _, rfl, _, _, r, ns, rfl, ⟨a, rfl, ha⟩, hR, h14, ro, fun H1 s1 => ?_⟩
    refine ⟨_, rfl, fun p dx np ndx nex => ?_⟩
    have tn : Same H1 (upd (upd H1 dx (.own p)) p (.ins C dx [])) := same_new (same_upd ndx) (by rw [upd_ne (Ne.symm nex)]; exact np)
    refine ⟨p, dx, _, r, rfl, upd_same, ⟨a, rfl, tn.tup (s1.tup ha)⟩, h14, fun H3 hF kp => ⟨rfl, ?_⟩⟩
    have s3 : Same H1 H3 := Same.made np ndx kp
    have t3 := s1.trans s3
    exact ⟨_, rfl, p, _, r, ns, rfl, hF, t3.row hR, h14, ro.ok, fun v' H4 s4 hv' => k v' H4 (t3.trans s4) hv'⟩
def voN1 (r : List Int) (ns : List Num) (l : List Int) : Num := lowL (tsL r 1 l (levT ns)) (levB ns)
def spVoice (K : PySem.W.Frag) : Sp := fun vs H Q _ => ∃ (v u z : V) (r : List Int) (ns : List Num) (l : List Int), vs = [v, u, z] ∧ TupI K H v r ∧ RowAt K H u ns ∧ TupI K H z l ∧ r ∈ RR ∧ RowG r ns ∧ l ∈ placesL r ∧ ∀ v' H', Same H H' → NumAt K H' v' (voN1 r ns l) → Q v' H'
abbrev vcN : List Str := ["rings", "row", "label", "floor", "items", "bottom"]
theorem scVoice : FnScope vcN ["rings", "row", "label"] (defScope sVoice) := ⟨rfl, rfl, rfl, by decide +kernel, rfl, by decide +kernel, by decide +kernel⟩
theorem ok_voice (F : FnP K "voice" sVoice f fd) (T : FlT K mg C fI fM) (FI : FunD K "__init__" "Floor.__init__" (defArgs sFInit) (defBody sFInit) (defScope sFInit) [] [] fI fdI) (GI : FnOk P w K mg base CX0 3 fI fdI ["self", "rings"] (spFInit K C))
    (F1 : FnP K "check_row" sChkRow f1 fd1) (g1 : mg "check_row" = some (.ref f1)) (G1 : FnOk P w K mg base CX0 7 f1 fd1 ["rings", "row"] (spRow K .non)) (F2 : FnP K "check_place" sChkP f2 fd2) (g2 : mg "check_place" = some (.ref f2)) (G2 : FnOk P w K mg base CX0 5 f2 fd2 ["rings", "place"] (spChkP K))
    (F3 : FnP K "levelled" sLev f3 fd3) (g3 : mg "levelled" = some (.ref f3)) (G3 : FnOk P w K mg base CX0 1 f3 fd3 ["numbers"] (spLev K)) (F4 : FnP K "turned_sum" sTSum f4 fd4) (g4 : mg "turned_sum" = some (.ref f4)) (G4 : FnOk P w K mg base CX0 3 f4 fd4 ["floor", "items", "places", "label", "sign"] (spTS K C))
    (F5 : FnP K "lowered" sLow f5 fd5) (g5 : mg "lowered" = some (.ref f5)) (G5 : FnOk P w K mg base CX0 1 f5 fd5 ["tops", "bottom"] (spLow K)) : FnOk P w K mg base CX0 8 f fd ["rings", "row", "label"] (spVoice K) := by
  have bI : Binds K fdI ["self", "rings"] [] := FI.bindsN fun _ _ _ _ _ _ us hl => match us, hl with | [_, _], _ => rfl
  have b1 : Binds K fd1 ["rings", "row"] [] := F1.bindsN fun _ _ _ _ _ _ us hl => match us, hl with | [_, _], _ => rfl
  have b2 : Binds K fd2 ["rings", "place"] [] := F2.bindsN fun _ _ _ _ _ _ us hl => match us, hl with | [_, _], _ => rfl
  have b3 : Binds K fd3 ["numbers"] [] := F3.bindsN fun _ _ _ _ _ _ us hl => match us, hl with | [_], _ => rfl
  have b4 : Binds K fd4 ["floor", "items", "places", "label", "sign"] [] := F4.bindsN fun _ _ _ _ _ _ us hl => match us, hl with | [_, _, _, _, _], _ => rfl
  have b5 : Binds K fd5 ["tops", "bottom"] [] := F5.bindsN fun _ _ _ _ _ _ us hl => match us, hl with | [_, _], _ => rfl
  refine F.ok scVoice (fun vs H Q E h => ?_) (fun cdv A outer s H vs Q E hr h => ?_)
  · obtain ⟨v, u, z, r, ns, l, rfl, _⟩ := h
    rfl
  · obtain ⟨v, u, z, r, ns, l, rfl, ⟨a, rfl, ha⟩, hR, hz, h14, ro, hl, k⟩ := h
    refine ⟨_, PSs.nox (pss_cons (ps_expr (pe_call G1 hr rfl g1 F1.kp b1 .nil pass0 (pa_cons (pv 0) (pa_cons (pv 1) pa_nil))))
      (pss_cons (ps_expr (pe_call G2 (hr.mono (by decide)) rfl g2 F2.kp b2 .nil pass0 (pa_cons (pv 0) (pa_cons (pv 2) pa_nil))))
      (pss_cons (ps_set (i := 3) scVoice.nd rfl (Or.inl rfl) (pe_make T.mkk GI (hr.mono (by decide)) rfl T.mgC bI .nil pass0 (pa_cons (pv 0) pa_nil)))
      (pss_cons (ps_asg (pe_call G3 (hr.mono (by decide)) rfl g3 F3.kp b3 .nil pass0 (pa_cons (pv 1) pa_nil)) (pg_tup rfl (pgs_cons (pg_name (i := 4) scVoice.nd rfl (Or.inl rfl)) (pgs_cons (pg_name (i := 5) scVoice.nd rfl (Or.inl rfl)) pgs_nil))))
      (pss_one (ps_ret (pe_call G5 (hr.mono (by decide)) rfl g5 F5.kp b5 .nil pass0 (pa_cons (pe_call G4 (hr.mono (by decide)) rfl g4 F4.kp b4 .nil pass0 (pa_cons (pv 3) (pa_cons (pv 4) (pa_cons (pe_fld (pv 3) rfl) (pa_cons (pv 2) (pa_cons pe_int pa_nil)))))) (pa_cons (pv 5) pa_nil))))))))), ?_⟩
    refine ⟨_, rfl, _, rfl, _, _, r, ns, rfl, ⟨a, rfl, ha⟩, hR, h14, ro, fun H0 s0 => ?_⟩
    refine ⟨_, rfl, _, rfl, _, _, r, l, rfl, ⟨a, rfl, s0.tup ha⟩, s0.tupI hz, h14, hl, fun H1 s1' => ?_⟩
    have s1 := s0.trans s1'
    refine ⟨_, rfl, fun p dx np ndx nex => ?_⟩
    have tn : Same H1 (upd (upd H1 dx (.own p)) p (.ins C dx [])) := same_new (same_upd ndx) (by rw [upd_ne (Ne.symm nex)]; exact np)
    refine ⟨p, dx, _, r, rfl, upd_same, ⟨a, rfl, tn.tup (s1.tup ha)⟩, h14, fun H3 hF kp => ⟨rfl, ?_⟩⟩
    have s3 : Same H1 H3 := Same.made np ndx kp
    have t3 := s1.trans s3
    have h16 := rr_pl0 r h14
    have lns := ro.ok.len
    have bB := ro.ok.lev ns.length (Nat.le_refl _)
    rw [List.take_length] at bB
    refine ⟨_, rfl, _, ns, rfl, t3.row hR, by omega, ro.ok.item, ro.ok.lev, fun pt t ts H4 s4 hpt nt ht tt => ?_⟩
    refine ⟨pt, _, rfl, hpt, rfl, _, _, rfl, _, _, rfl, rfl, ?_⟩
    have hF4 := s4.floor hF
    obtain ⟨dx', ar, po, pl, h1, h2, h3, h4⟩ := id hF4
    have few : ∀ ts ∈ levT ns, ts.length ≤ 1000 := fun ts hts => by
      unfold levT at hts
      obtain ⟨n, hn, rfl⟩ := List.mem_map.mp hts
      rw [List.length_map]
      exact (ro.ok.item n hn).2.2
    have lvl : (levT ns).length = (placesL r).length := by
      unfold levT
      rw [List.length_map, ro.ok.len]
    have t4 := t3.trans s4
    refine ⟨_, rfl, _, rfl, _, rfl, p, C, dx', _, _, rfl, h1, T.cl, T.aL, g_places, _, rfl, p, t, pl, _, ts, r, l, levT ns, 1, rfl, by decide, by decide, hF4, SqL.of ht, tt, h4, t4.tupI hz, hl, h14, lvl, few, fun t2 H5 s5 nt2 ht2 => ?_⟩
    exact ⟨_, rfl, t2, _, levB ns, rfl, .inr (SqT.of ht2), by omega, by omega, tsL_len h14 _ _ _, fun v' H6 s6 hv' => k v' H6 ((t4.trans s5).trans s6) hv'⟩
end
end K08

/-! any(..) of a tuple of ints. -/
namespace K08
open PySem PySem.Spec PyProof.Rows L2
theorem someN_range : ∀ ns : List Int, (List.range ns.length).any (fun i => ns.getD i 0 != 0) = someN ns := fun ns => by
  rw [Bool.eq_iff_iff]
  unfold someN
  rw [List.any_eq_true, List.any_eq_true]
  constructor
  · rintro ⟨i, hi, h⟩
    have hi := List.mem_range.mp hi
    refine ⟨ns[i], List.getElem_mem hi, ?_⟩
    rw [List.getD_eq_getElem?_getD, List.getElem?_eq_getElem hi] at h
    exact h
  · rintro ⟨n, hn, h⟩
    obtain ⟨i, hi, rfl⟩ := List.getElem_of_mem hn
    refine ⟨i, List.mem_range.mpr hi, ?_⟩
    rw [List.getD_eq_getElem?_getD, List.getElem?_eq_getElem hi]
    exact h
theorem truth_ints {prog : Program} {w : World} {A : Around} {ns : List Int} {its : List Value} (r : Vals (ns.map V.int) its) : TruthOf prog w A (fun i v => its.toArray[i]? = some v) (fun i => ns.getD i 0 != 0) := fun i v s Q E hv hq => by
  have hv' : its[i]? = some v := by simpa using hv
  have hl : i < ns.length := by
    have h1 := ltL hv'
    have h2 := r.length
    rw [List.length_map] at h2
    omega
  obtain ⟨u, hu, ru⟩ := r.get (getD_of hl)
  rw [hv'] at hu
  cases hu
  obtain ⟨t, rfl⟩ := (show ∃ t, v = Value.int (ns.getD i 0) t from ru)
  exact PySem.P.truthy_int hq
section
variable {X : Cx}
def rAnyT (K : PySem.W.Frag) : List V → Hp → VK → Prop := fun vs H Q => ∃ (a : Addr) (ns : List Int), vs = [V.ref a] ∧ SqT K H a (ns.map V.int) ∧ Q (.bl (someN ns)) H
theorem cr_anyT (hc : X.calm = true) : CallR X (.builtin "any") (rAnyT X.K) := by
  intro pins s σ H vs us Q I r h
  obtain ⟨a, ns, rfl, hs, q⟩ := h
  obtain ⟨its, rv, p, _⟩ := I.tuple hs
  rw [Vals.ref1 r]
  have hlt : a < s.heap.objs.size := by
    obtain ⟨_, e, _⟩ := id p
    exact Heap.lt_size e
  refine call_any_walk (wpAny_pyIter_tuple p ?_)
  refine ⟨s.heap.objs.size, _, _, _, _, _, _, rfl, Walks.tuple (A := X.A.in1) (I.ok.hd hc) s.heap.objs.size a (Nat.ne_of_lt hlt) its.toArray, ⟨⟨_, Heap.get?_push_size _ rfl, rfl, rfl⟩, p.push _⟩, truth_ints rv, fun h' tk hk => ?_⟩
  refine ⟨.bl _, H, I.kept fun b o eo => hk b o (fun hm => ?_) (Heap.get?_push_of_some _ eo), ?_, q⟩
  · have e1 := List.mem_singleton.mp hm
    rw [e1] at eo
    exact Nat.lt_irrefl _ (Heap.lt_size eo)
  · show Value.bool _ = Value.bool _
    have hl := rv.length
    rw [List.length_map] at hl
    rw [← someN_range, List.size_toArray, hl]
end
end K08

/-! zip of a list and a tuple. -/
namespace K08
open PySem PySem.Spec PyProof.Rows L2
/-- a list and a tuple of one length as they stand at each turn, the items in new pairs -/
def ItZm (K : PySem.W.Frag) (a b : Addr) : It :=
  ⟨fun i H => ∃ (xs ys : List V) (x y : V), SqL K H a xs ∧ SqT K H b ys ∧ xs[i]? = some x ∧ ys[i]? = some y,
    fun i H v H' => ∃ T x y, v = .ref T ∧ H T = none ∧ H' = upd H T (.tup [x, y]) ∧ (∀ xs, SqL K H a xs → xs[i]? = some x) ∧ ∀ ys, SqT K H b ys → ys[i]? = some y,
    fun i H => ∃ xs ys : List V, SqL K H a xs ∧ SqT K H b ys ∧ xs.length = i ∧ ys.length = i⟩
theorem turn_zipM {P : Program} {w : World} {K : PySem.W.Frag} {elts : List Expr} {kk : Nat} {tpos : Pos} {a b z TI TO i1 i2 : Addr} (S : ZipSep2 z TI TO i1 i2 [i1, a] [i2, b]) (na : a ≠ i1) (nb : b ≠ i2) :
    Turn P w K (.Tuple elts kk tpos) (ItZm K a b) [z, TI, TO, i1, i2] z (fun i h => IsZip h z TI TO .none ∧ IsTupOf2 h TI (.ref i1) (.ref i2) ∧ (∃ a1 a2, IsTupOf2 h TO a1 a2) ∧ h.IsListIter i1 a i ∧ h.IsTupleIter i2 b i) where
  mem := by simp
  obj := fun i h st e he => by
    obtain ⟨hz, hTI, ⟨x, y, hTO⟩, ⟨o1, e1, _, d1⟩, ⟨o2, e2, _, d2⟩⟩ := st
    have e' : e = z ∨ e = TI ∨ e = TO ∨ e = i1 ∨ e = i2 := by simpa using he
    rcases e' with q | q | q | q | q
    · rw [q]; exact ⟨_, hz, fun v q => nomatch q⟩
    · rw [q]; exact ⟨_, hTI, fun v q => nomatch q⟩
    · rw [q]; exact ⟨_, hTO, fun v q => nomatch q⟩
    · rw [q]; exact ⟨o1, e1, fun v q => by rw [d1] at q; cases q⟩
    · rw [q]; exact ⟨o2, e2, fun v q => by rw [d2] at q; cases q⟩
  keep := fun i h h' st k => by
    obtain ⟨hz, hTI, ⟨x, y, hTO⟩, h1, h2⟩ := st
    exact ⟨k z (by simp) _ hz, k TI (by simp) _ hTI, ⟨x, y, k TO (by simp) _ hTO⟩, h1.at fun o q => k i1 (by simp) o q, h2.at fun o q => k i2 (by simp) o q⟩
  item := by
    intro X hP hw hK hc i pins s σ H E I hf st hg
    subst hP hw hK
    obtain ⟨hz, hTI, hTO, h1, h2⟩ := st
    obtain ⟨xs, ys, x, y, hqx, hqy, hx, hy⟩ := hg
    obtain ⟨its1, rv1, p1, _⟩ := I.list hqx
    obtain ⟨its2, rv2, p2, _⟩ := I.tuple hqy
    obtain ⟨v1, g1, r1⟩ := rv1.get hx
    obtain ⟨v2, g2, r2⟩ := rv2.get hy
    have hh : X.A.in1.handled = none := I.ok.hd hc
    have G := GoesN.zip2 (prog := X.prog) (w := X.w) (A := X.A) (elts := elts) (x1 := kk) (pos := tpos) S (Draws.list hh i1 a na its1.toArray) (Draws.tuple hh i2 b nb its2.toArray)
    have l1 := ltL g1
    have l2 := ltL g2
    refine G.goes i s (fun u s2 => ∃ x H', Inv X pins σ H' s2 ∧ RelV x u ∧ (ItZm X.K a b).yld i H x H' ∧ _ ∧ ∀ b ∈ [z, TI, TO, i1, i2], H' b = none) E (by simp; omega) ⟨hz, hTI, hTO, ⟨h1, p1.isList⟩, ⟨h2, p2⟩⟩ fun v h' tk hY st2 hk htk => ?_
    obtain ⟨T, w1, w2, rfl, hT, q1, q2, hI⟩ := hY
    obtain ⟨z', TI', TO', ⟨k1, _⟩, ⟨k2, _⟩⟩ := st2
    have e1 : w1 = v1 := by simpa [g1] using q1.symm
    have e2 : w2 = v2 := by simpa [g2] using q2.symm
    subst e1 e2
    have new : ObjOk X.prog X.w (upd H T (.tup [x, y])) h' T (.tup [x, y]) := ⟨by show 2 ≤ sizeLine; decide, [w1, w2], .cons r1 (.cons r2 .nil), hI⟩
    have I1 := I.turnedNew (t' := tk) (ch := [z, TO, i1, i2]) hk (fun b hb => hf b (by simp at hb ⊢; rcases hb with q | q | q | q <;> simp [q])) hT new
    refine ⟨.ref T, _, I1, rfl, ⟨T, x, y, rfl, I.hok.fresh hT, rfl, fun l hl => by rw [I.list_inj hl hqx]; exact hx, fun l hl => by rw [I.tuple_inj hl hqy]; exact hy⟩, ⟨z', TI', TO', k1, k2⟩, fun e he => ?_⟩
    have hlt : e < s.heap.objs.size := by
      have e' : e = z ∨ e = TI ∨ e = TO ∨ e = i1 ∨ e = i2 := by simpa using he
      obtain ⟨_, _, hTO'⟩ := hTO
      obtain ⟨_, f1, _⟩ := h1
      obtain ⟨_, f2, _⟩ := h2
      rcases e' with q | q | q | q | q
      · rw [q]; exact Heap.lt_size hz
      · rw [q]; exact Heap.lt_size hTI
      · rw [q]; exact Heap.lt_size hTO'
      · rw [q]; exact Heap.lt_size f1
      · rw [q]; exact Heap.lt_size f2
    rw [upd_ne (Nat.ne_of_lt (Nat.lt_of_lt_of_le hlt hT))]
    exact (hf e he).1
  done := by
    intro X hP hw hK hc i pins s σ H E I hf st hg
    subst hP hw hK
    obtain ⟨hz, hTI, hTO, h1, h2⟩ := st
    obtain ⟨xs, ys, hqx, hqy, n1, n2⟩ := hg
    obtain ⟨its1, rv1, p1, _⟩ := I.list hqx
    obtain ⟨its2, rv2, p2, _⟩ := I.tuple hqy
    have l1 := rv1.length
    have l2 := rv2.length
    have hh : X.A.in1.handled = none := I.ok.hd hc
    have G := GoesN.zip2 (prog := X.prog) (w := X.w) (A := X.A) (elts := elts) (x1 := kk) (pos := tpos) S (Draws.list hh i1 a na its1.toArray) (Draws.tuple hh i2 b nb its2.toArray)
    have en : min its1.toArray.size its2.toArray.size = i := by simp; omega
    rw [en] at G
    exact G.stops s _ E ⟨hz, hTI, hTO, ⟨h1, p1.isList⟩, ⟨h2, p2⟩⟩ fun h' tk hk htk => I.turnedL (t' := tk) (ch := [z, TO, i1, i2]) hk (fun b hb => hf b (by simp at hb ⊢; rcases hb with q | q | q | q <;> simp [q]))
  self := fun A i s Q E st h => wpAny_pyIter_zip st.1 h
def iZipM (K : PySem.W.Frag) (ta : TA) : TI := fun σ H R => ta σ H fun vs H1 => ∃ a b xs ys, vs = [.ref a, .ref b] ∧ SqL K H1 a xs ∧ SqT K H1 b ys ∧ R (ItZm K a b) H1
theorem pi_zipM {X : Cx} {e e2 : Expr} {ta : TA} {p pos tpos : Pos} {elts : List Expr} {kk : Nat} (hg : Gl X "zip") (hm : X.mg "zip" = none) (ha : PA X [e, e2] ta)
    (hs : starEach [e, e2] X.env = (false, eval e X.env) :: starEach [e2] X.env := by rfl) (hpl : (backTo pos (starEach [e2] X.env)).any (·.1) = false := by rfl) : PI X (.Tuple elts kk tpos) (.Call (.Name "zip" p) [e, e2] [] pos) (iZipM X.K ta) := by
  refine ⟨fun pins s σ H R I h => ?_⟩
  refine Call_ (ld_blt I hg hm PyProof.Rows.boot_zip (PyProof.Rows.callWith_type1 (thn (ha.run pos pins s σ H _ I h) fun us s1 ⟨vs, H1, I1, r1, q1⟩ => ?_) hs hpl))
  obtain ⟨a, b, xs, ys, rfl, hqx, hqy, q⟩ := q1
  cases r1 with
  | cons r rr =>
    cases rr with
    | cons r' rr =>
      cases rr
      cases r
      cases r'
      obtain ⟨its1, rv1, p1, _⟩ := I1.list hqx
      obtain ⟨its2, rv2, p2, _⟩ := I1.tuple hqy
      obtain ⟨o1, ho1, _⟩ := id p1.isList
      obtain ⟨o2, ho2, _⟩ := id p2
      have la := Heap.lt_size ho1
      have lb := Heap.lt_size ho2
      generalize hN : s1.heap.objs.size = N at la lb
      refine zip_begins2 (begins_list a its1.toArray) (begins_tuple b its2.toArray) p1.isList p2 fun h' hz hTI hTO g1 g2 hsz hk => wpAny_pyIter_zip hz ?_
      rw [hN] at hz hTI hTO g1 g2 ⊢
      have I2 : Inv X pins σ H1 { s1 with heap := h' } := I1.kept (t' := s1.toks) hk
      have S : ZipSep2 (N + 4) (N + 2) (N + 3) N (N + 1) [N, a] [N + 1, b] := zip_sep2 (fun d hd => by rw [List.mem_singleton.mp hd]; exact la) (fun d hd => by rw [List.mem_singleton.mp hd]; exact lb)
      refine ⟨N + 4, [N + 4, N + 2, N + 3, N, N + 1], _, _, H1, rfl, I2, turn_zipM S (Nat.ne_of_lt la) (Nat.ne_of_lt (Nat.lt_succ_of_lt lb)), ⟨hz, hTI, ⟨_, _, hTO⟩, ⟨_, g1, rfl, rfl⟩, ⟨_, g2, rfl, rfl⟩⟩, fun d hd => ?_, q⟩
      have hle : s1.heap.objs.size ≤ d := by
        have e' : d = N + 4 ∨ d = N + 2 ∨ d = N + 3 ∨ d = N ∨ d = N + 1 := by simpa using hd
        rw [hN]
        rcases e' with z | z | z | z | z
        · rw [z]; exact Nat.le_add_right _ _
        · rw [z]; exact Nat.le_add_right _ _
        · rw [z]; exact Nat.le_add_right _ _
        · rw [z]; exact Nat.le_refl _
        · rw [z]; exact Nat.le_add_right _ _
      exact ⟨(I1.fpOk hle (I1.hok.fresh hle)).1, (I1.fpOk hle (I1.hok.fresh hle)).2⟩
theorem walk_zipM {K : PySem.W.Frag} {a b : Addr} {xs ys : List V} (h1 : ys.length = xs.length) : Walk (ItZm K a b) xs.length (fun H => SqL K H a xs ∧ SqT K H b ys) (YPair (fun i => xs[i]?) (fun i => ys[i]?)) := by
  refine ⟨fun i _ hi q => ⟨xs, ys, xs[i], ys[i]'(by omega), q.1, q.2, by simp [hi], by simp [show i < ys.length by omega]⟩, fun _ q => ⟨xs, ys, q.1, q.2, rfl, h1⟩, fun i H v H' _ q y => ?_⟩
  obtain ⟨T, x, y, h2, h3, h4, h5, h6⟩ := y
  exact ⟨T, x, y, h2, h3, h4, h5 xs q.1, h6 ys q.2⟩
end K08

/-! is_zero, filled, sounding. -/
namespace K08
open PySem PySem.Spec PyProof.Rows L2
/-- a tuple of places -/
def PlT (K : PySem.W.Frag) (H : Hp) (v : V) (ps : List (List Int)) : Prop := ∃ p ks, v = .ref p ∧ SqT K H p (rf ks) ∧ ks.map (·.2) = ps ∧ TL K H ks
section
variable {P : Program} {w : World} {K : PySem.W.Frag} {mg : Str → Option Value} {base : Heap} {f f1 f2 f3 f4 f5 C fI fM : Addr} {fd fd1 fd2 fd3 fd4 fd5 fdI : FuncData}
def spZero (K : PySem.W.Frag) : Sp := fun vs H Q _ => ∃ (v : V) (n : Num), vs = [v] ∧ NumAt K H v n ∧ Q (.bl (!someN n.1)) H
theorem scZero : FnScope ["number", "tops", "_"] ["number"] (defScope sIsZero) := ⟨rfl, rfl, rfl, by decide +kernel, rfl, by decide +kernel, by decide +kernel⟩
theorem ok_zero (F : FnP K "is_zero" sIsZero f fd) (B : mg "any" = none) : FnOk P w K mg base CX0 1 f fd ["number"] (spZero K) := by
  refine F.ok scZero (fun vs H Q E h => ?_) (fun cdv A outer s H vs Q E hr h => ?_)
  · obtain ⟨v, n, rfl, _⟩ := h
    rfl
  · obtain ⟨v, n, rfl, hv, k⟩ := h
    refine ⟨_, PSs.nox (pss_cons (ps_asg (pv 0) (pg_tup rfl (pgs_cons (pg_name (i := 1) scZero.nd rfl (Or.inl rfl)) (pgs_cons (pg_name (i := 2) scZero.nd rfl (Or.inl rfl)) pgs_nil))))
      (pss_one (ps_ret (pe_not (pe_callB (cr_anyT rfl) (by rfl) B (by decide +kernel) (pa_cons (pv 1) pa_nil)))))), ?_⟩
    obtain ⟨p, t, rfl, hp, ht⟩ := hv
    refine ⟨_, rfl, p, _, rfl, hp, rfl, _, _, rfl, _, _, rfl, rfl, ?_⟩
    exact ⟨_, rfl, t, n.1, rfl, ht, _, rfl, k⟩
def spSome (K : PySem.W.Frag) (C : Addr) : Sp := fun vs H Q _ => ∃ (p : Addr) (v : V) (r : List Int) (ns : List Num), vs = [.ref p, v] ∧ FloorAt K C H p r ∧ RowAt K H v ns ∧ r ∈ RR ∧ ns.length = (placesL r).length ∧ ∀ v' H', Same H H' → PlT K H' v' (filL r ns ns.length) → Q v' H'
abbrev smN : List Str := ["floor", "row", "place", "item"]
theorem scSome : FnScope smN ["floor", "row"] (defScope sSome) := ⟨rfl, rfl, rfl, by decide +kernel, rfl, by decide +kernel, by decide +kernel⟩
theorem ok_some (F : FnP K "_places_of_some" sSome f fd) (B : Bl mg) (T : FlT K mg C fI fM) (F1 : FnP K "is_zero" sIsZero f1 fd1) (g1 : mg "is_zero" = some (.ref f1)) (G1 : FnOk P w K mg base CX0 1 f1 fd1 ["number"] (spZero K)) : FnOk P w K mg base CX0 2 f fd ["floor", "row"] (spSome K C) := by
  have b1 : Binds K fd1 ["number"] [] := F1.bindsN fun _ _ _ _ _ _ us hl => match us, hl with | [_], _ => rfl
  refine F.ok scSome (fun vs H Q E h => ?_) (fun cdv A outer s H vs Q E hr h => ?_)
  · obtain ⟨p, v, r, ns, rfl, _⟩ := h
    rfl
  · obtain ⟨p, v, r, ns, rfl, hF, hR, h14, hl, k⟩ := h
    refine ⟨_, PSs.nox (pss_one (ps_ret (pe_callTy call_tuple_of (by rfl) (B "tuple" (by decide +kernel)) (by decide +kernel) (pa_cons
      (pe_lc (own := [("place", 2), ("item", 3)]) (g := gTup K 2 (gCons (gName 2) (gCons (gName 3) gNil))) (tt := tNot (tTest (tCall (spZero K) [] E0 (tCons (tVar 3) tNil)))) (te := tVar 2) rfl scSome.nd
        (pi_zipM (by rfl) (B "zip" (by decide +kernel)) (pa_cons (pe_fld (pv 0) rfl) (pa_cons (pv 1) pa_nil))) (blkOk_by (own := [("place", 2), ("item", 3)]) (N := smN) (sc := defScope sSome) (by decide +kernel))
        (fun _ _ _ _ _ => pg_tup rfl (pgs_cons (pg_name (i := 2) scSome.nd rfl (Or.inl rfl)) (pgs_cons (pg_name (i := 3) scSome.nd rfl (Or.inl rfl)) pgs_nil))) (fun _ _ _ _ _ => pts_one (pt_not (pt_val (pe_call G1 hr rfl g1 F1.kp b1 .nil pass0 (pa_cons (pv 3) pa_nil)))))
        (fun _ _ _ _ _ => pv 2)) pa_nil)))), ?_⟩
    obtain ⟨dx, ar, po, pl, h1, h2, h3, h4⟩ := id hF
    obtain ⟨kp, hk1, hk2, hk3⟩ := id h4
    obtain ⟨q, us, rfl, hq, hN⟩ := hR
    have hr16 := rr_pl0 r h14
    have hkl : (rf kp).length = (placesL r).length := by rw [← hk2, List.length_map, List.length_map]
    have hul : us.length = (rf kp).length := by rw [hN.1, hl, hkl]
    refine ⟨_, rfl, p, C, dx, _, _, rfl, h1, T.cl, T.aL, g_places, _, rfl, pl, q, rf kp, us, rfl, SqL.of hk1, hq, fun D hD => ?_⟩
    refine lc_it (walk_zipM (K := K) (a := pl) (b := q) (xs := rf kp) (ys := us) hul) (fun i H2 => Same H H2 ∧ ∃ ks, H2 D = some (.lst (rf ks)) ∧ TL K H2 ks ∧ ks.map (·.2) = filL r ns i) ⟨same_upd hD, [], upd_same, tl_nil, by simp [filL]⟩ (fun i H2 _ ⟨s2, _⟩ => ⟨SqL.of (s2 _ _ hk1), s2.tup hq⟩) ?_ ?_
    · rintro i x H2 H3 hi ⟨s2, ks, hD2, tk, ek⟩ ⟨Tt, c1, y, rfl, hT, rfl, ec, ey⟩
      obtain ⟨qq, rfl, hqq⟩ := getR ec
      obtain ⟨n, hn, hnum⟩ := hN.get ey
      have hqm := List.mem_of_getElem? hqq
      have hq2 : (placesL r)[i]? = some qq.2 := by rw [← hk2, List.getElem?_map, hqq]; rfl
      have s3 : Same H (upd H2 Tt (.tup [.ref qq.1, y])) := same_new s2 hT
      have t23 : Same H2 (upd H2 Tt (.tup [.ref qq.1, y])) := same_upd hT
      have ez : ((placesL r).zip ns)[i]? = some (qq.2, n) := by
        rw [List.getElem?_zip_eq_some]
        exact ⟨hq2, hn⟩
      refine ⟨Tt, _, rfl, SqT.of upd_same, rfl, _, _, rfl, _, _, rfl, rfl, rfl, ?_⟩
      refine ⟨_, rfl, y, n, rfl, s3.num hnum, ?_⟩
      refine ⟨_, rfl, ?_⟩
      have kl : ks.length ≤ i := by
        have := congrArg List.length ek
        rw [List.length_map] at this
        rw [this]
        unfold filL
        exact Nat.le_trans (List.length_filterMap_le _ _) (List.length_take_le _ _)
      have hD3 : upd H2 Tt (.tup [.ref qq.1, y]) D = some (.lst (rf ks)) := t23 _ _ hD2
      have il := ltL hq2
      refine ite2 (fun c => ?_) (fun c => ?_)
      · have c1 : someN n.1 = true := by simpa using c
        refine ⟨_, rfl, _, hD3, sl_lt (by rw [List.length_map]; omega), same_at s3 hD, ks ++ [(qq.1, qq.2)], ?_, tl_at (tl_snoc (t23.tl tk) (s3.tup (hk3 qq hqm))) hD3, ?_⟩
        · rw [upd_same, rf_snoc]
        · rw [List.map_append, ek]
          unfold filL
          rw [takeS ez, List.filterMap_append]
          simp [c1]
      · have c1 : ¬ someN n.1 = true := by simpa using c
        refine ⟨s3, ks, hD3, t23.tl tk, ?_⟩
        rw [ek]
        unfold filL
        rw [takeS ez, List.filterMap_append]
        simp [c1]
    · rintro H2 ⟨s2, ks, hD2, tk, ek⟩
      rw [hkl, ← hl] at ek
      refine ⟨D, _, rfl, .inl ⟨SqL.of hD2, fun t ht => ?_⟩⟩
      have st := same_upd (o := .tup (rf ks)) ht
      exact k _ _ (s2.trans st) ⟨t, ks, rfl, SqT.of upd_same, ek, st.tl tk⟩
end
end K08

/-! filled, sounding. -/
namespace K08
open PySem PySem.Spec PyProof.Rows L2
section
variable {P : Program} {w : World} {K : PySem.W.Frag} {mg : Str → Option Value} {base : Heap} {f f1 f2 f3 f4 f5 C fI fM : Addr} {fd fd1 fd2 fd3 fd4 fd5 fdI : FuncData}
def spFilled (K : PySem.W.Frag) : Sp := fun vs H Q _ => ∃ (v u : V) (r : List Int) (ns : List Num), vs = [v, u] ∧ TupI K H v r ∧ RowAt K H u ns ∧ r ∈ RR ∧ RowG r ns ∧ ∀ v' H', Same H H' → PlT K H' v' (filL r ns ns.length) → Q v' H'
theorem scFilled : FnScope ["rings", "row"] ["rings", "row"] (defScope sFilled) := ⟨rfl, rfl, rfl, by decide +kernel, rfl, by decide +kernel, by decide +kernel⟩
theorem ok_filled (F : FnP K "filled" sFilled f fd) (T : FlT K mg C fI fM) (FI : FunD K "__init__" "Floor.__init__" (defArgs sFInit) (defBody sFInit) (defScope sFInit) [] [] fI fdI) (GI : FnOk P w K mg base CX0 3 fI fdI ["self", "rings"] (spFInit K C))
    (F1 : FnP K "check_row" sChkRow f1 fd1) (g1 : mg "check_row" = some (.ref f1)) (G1 : FnOk P w K mg base CX0 7 f1 fd1 ["rings", "row"] (spRow K .non)) (F2 : FnP K "_places_of_some" sSome f2 fd2) (g2 : mg "_places_of_some" = some (.ref f2)) (G2 : FnOk P w K mg base CX0 2 f2 fd2 ["floor", "row"] (spSome K C)) :
    FnOk P w K mg base CX0 8 f fd ["rings", "row"] (spFilled K) := by
  have bI : Binds K fdI ["self", "rings"] [] := FI.bindsN fun _ _ _ _ _ _ us hl => match us, hl with | [_, _], _ => rfl
  have b1 : Binds K fd1 ["rings", "row"] [] := F1.bindsN fun _ _ _ _ _ _ us hl => match us, hl with | [_, _], _ => rfl
  have b2 : Binds K fd2 ["floor", "row"] [] := F2.bindsN fun _ _ _ _ _ _ us hl => match us, hl with | [_, _], _ => rfl
  refine F.ok scFilled (fun vs H Q E h => ?_) (fun cdv A outer s H vs Q E hr h => ?_)
  · obtain ⟨v, u, r, ns, rfl, _⟩ := h
    rfl
  · obtain ⟨v, u, r, ns, rfl, ⟨a, rfl, ha⟩, hR, h14, ro, k⟩ := h
    refine ⟨_, PSs.nox (pss_cons (ps_expr (pe_call G1 hr rfl g1 F1.kp b1 .nil pass0 (pa_cons (pv 0) (pa_cons (pv 1) pa_nil))))
      (pss_one (ps_ret (pe_call G2 (hr.mono (by decide)) rfl g2 F2.kp b2 .nil pass0 (pa_cons (pe_make T.mkk GI (hr.mono (by decide)) rfl T.mgC bI .nil pass0 (pa_cons (pv 0) pa_nil)) (pa_cons (pv 1) pa_nil)))))), ?_⟩
    refine ⟨_, rfl, _, rfl, _, _, r, ns, rfl, ⟨a, rfl, ha⟩, hR, h14, ro, fun H1 s1 => ?_⟩
    refine ⟨_, rfl, fun p dx np ndx nex => ?_⟩
    have tn : Same H1 (upd (upd H1 dx (.own p)) p (.ins C dx [])) := same_new (same_upd ndx) (by rw [upd_ne (Ne.symm nex)]; exact np)
    refine ⟨p, dx, _, r, rfl, upd_same, ⟨a, rfl, tn.tup (s1.tup ha)⟩, h14, fun H3 hF kp => ⟨rfl, ?_⟩⟩
    have s3 : Same H1 H3 := Same.made np ndx kp
    have t3 := s1.trans s3
    exact ⟨_, rfl, p, _, r, ns, rfl, hF, t3.row hR, h14, ro.ok.len, fun v' H4 s4 hv' => k v' H4 (t3.trans s4) hv'⟩
theorem voL_len (r : List Int) (ns : List Num) : (voL r ns).length = (placesL r).length := by
  unfold voL
  rw [List.length_map]
def spSnd (K : PySem.W.Frag) : Sp := fun vs H Q _ => ∃ (v u : V) (r : List Int) (ns : List Num), vs = [v, u] ∧ TupI K H v r ∧ RowAt K H u ns ∧ r ∈ RR ∧ RowG r ns ∧ ∀ v' H', Same H H' → PlT K H' v' (filL r (voL r ns) (voL r ns).length) → Q v' H'
theorem scSnd : FnScope ["rings", "row", "floor"] ["rings", "row"] (defScope sSounding) := ⟨rfl, rfl, rfl, by decide +kernel, rfl, by decide +kernel, by decide +kernel⟩
theorem ok_sounding (F : FnP K "sounding" sSounding f fd) (T : FlT K mg C fI fM) (FI : FunD K "__init__" "Floor.__init__" (defArgs sFInit) (defBody sFInit) (defScope sFInit) [] [] fI fdI) (GI : FnOk P w K mg base CX0 3 fI fdI ["self", "rings"] (spFInit K C))
    (F1 : FnP K "check_row" sChkRow f1 fd1) (g1 : mg "check_row" = some (.ref f1)) (G1 : FnOk P w K mg base CX0 7 f1 fd1 ["rings", "row"] (spRow K .non)) (F2 : FnP K "_places_of_some" sSome f2 fd2) (g2 : mg "_places_of_some" = some (.ref f2)) (G2 : FnOk P w K mg base CX0 2 f2 fd2 ["floor", "row"] (spSome K C))
    (F3 : FnP K "voices_of" sVOf f3 fd3) (g3 : mg "voices_of" = some (.ref f3)) (G3 : FnOk P w K mg base CX0 4 f3 fd3 ["floor", "row"] (spVO K C)) : FnOk P w K mg base CX0 8 f fd ["rings", "row"] (spSnd K) := by
  have bI : Binds K fdI ["self", "rings"] [] := FI.bindsN fun _ _ _ _ _ _ us hl => match us, hl with | [_, _], _ => rfl
  have b1 : Binds K fd1 ["rings", "row"] [] := F1.bindsN fun _ _ _ _ _ _ us hl => match us, hl with | [_, _], _ => rfl
  have b2 : Binds K fd2 ["floor", "row"] [] := F2.bindsN fun _ _ _ _ _ _ us hl => match us, hl with | [_, _], _ => rfl
  have b3 : Binds K fd3 ["floor", "row"] [] := F3.bindsN fun _ _ _ _ _ _ us hl => match us, hl with | [_, _], _ => rfl
  refine F.ok scSnd (fun vs H Q E h => ?_) (fun cdv A outer s H vs Q E hr h => ?_)
  · obtain ⟨v, u, r, ns, rfl, _⟩ := h
    rfl
  · obtain ⟨v, u, r, ns, rfl, ⟨a, rfl, ha⟩, hR, h14, ro, k⟩ := h
    refine ⟨_, PSs.nox (pss_cons (ps_expr (pe_call G1 hr rfl g1 F1.kp b1 .nil pass0 (pa_cons (pv 0) (pa_cons (pv 1) pa_nil))))
      (pss_cons (ps_set (i := 2) scSnd.nd rfl (Or.inl rfl) (pe_make T.mkk GI (hr.mono (by decide)) rfl T.mgC bI .nil pass0 (pa_cons (pv 0) pa_nil)))
      (pss_one (ps_ret (pe_call G2 (hr.mono (by decide)) rfl g2 F2.kp b2 .nil pass0 (pa_cons (pv 2) (pa_cons (pe_call G3 (hr.mono (by decide)) rfl g3 F3.kp b3 .nil pass0 (pa_cons (pv 2) (pa_cons (pv 1) pa_nil))) pa_nil))))))), ?_⟩
    refine ⟨_, rfl, _, rfl, _, _, r, ns, rfl, ⟨a, rfl, ha⟩, hR, h14, ro, fun H1 s1 => ?_⟩
    refine ⟨_, rfl, fun p dx np ndx nex => ?_⟩
    have tn : Same H1 (upd (upd H1 dx (.own p)) p (.ins C dx [])) := same_new (same_upd ndx) (by rw [upd_ne (Ne.symm nex)]; exact np)
    refine ⟨p, dx, _, r, rfl, upd_same, ⟨a, rfl, tn.tup (s1.tup ha)⟩, h14, fun H3 hF kp => ⟨rfl, ?_⟩⟩
    have s3 : Same H1 H3 := Same.made np ndx kp
    have t3 := s1.trans s3
    refine ⟨_, rfl, _, rfl, _, rfl, p, _, r, ns, rfl, hF, t3.row hR, h14, ro.ok, fun v' H4 s4 hv' => ?_⟩
    exact ⟨p, v', r, voL r ns, rfl, s4.floor hF, hv', h14, voL_len r ns, fun v2 H5 s5 hv2 => k v2 H5 ((t3.trans s4).trans s5) hv2⟩
end
end K08

/-! whole rows. -/
namespace K08
open PySem PySem.Spec PyProof.Rows L2
section
variable {P : Program} {w : World} {K : PySem.W.Frag} {mg : Str → Option Value} {base : Heap} {f f1 f2 f3 f4 f5 C fI fM : Addr} {fd fd1 fd2 fd3 fd4 fd5 fdI : FuncData}
def spWhole (K : PySem.W.Frag) (b : V) : Sp := fun vs H Q _ => ∃ (v u : V) (r xs : List Int), vs = [v, u] ∧ TupI K H v r ∧ TupI K H u xs ∧ r ∈ RR ∧ xs.length = (placesL r).length ∧ ∀ H', Same H H' → Q b H'
theorem scIsWhole : FnScope ["rings", "thing", "size"] ["rings", "thing"] (defScope sIsWhole) := ⟨rfl, rfl, rfl, by decide +kernel, rfl, by decide +kernel, by decide +kernel⟩
theorem ok_isWhole (F : FnP K "is_whole" sIsWhole f fd) (B : Bl mg) (F1 : FnP K "size_of" sSizeOf f1 fd1) (g1 : mg "size_of" = some (.ref f1)) (G1 : FnOk P w K mg base CX0 5 f1 fd1 ["rings"] (spSzOf K)) (F2 : FnP K "is_integers" sIsInts f2 fd2) (g2 : mg "is_integers" = some (.ref f2)) (G2 : FnOk P w K mg base CX0 2 f2 fd2 ["thing"] (spIsInts K)) : FnOk P w K mg base CX0 6 f fd ["rings", "thing"] (spWhole K (.bl true)) := by
  have b1 : Binds K fd1 ["rings"] [] := F1.bindsN fun _ _ _ _ _ _ us hl => match us, hl with | [_], _ => rfl
  have b2 : Binds K fd2 ["thing"] [] := F2.bindsN fun _ _ _ _ _ _ us hl => match us, hl with | [_], _ => rfl
  refine F.ok scIsWhole (fun vs H Q E h => ?_) (fun cdv A outer s H vs Q E hr h => ?_)
  · obtain ⟨v, u, r, xs, rfl, _⟩ := h
    rfl
  · obtain ⟨v, u, r, xs, rfl, ha, hu, h14, hl, k⟩ := h
    refine ⟨_, PSs.nox (pss_cons (ps_set (i := 2) scIsWhole.nd rfl (Or.inl rfl) (pe_call G1 hr rfl g1 F1.kp b1 .nil pass0 (pa_cons (pv 0) pa_nil)))
      (pss_one (ps_ret (pe_and (pe_call G2 (hr.mono (by decide)) rfl g2 F2.kp b2 .nil pass0 (pa_cons (pv 1) pa_nil)) (pe_one (pe_cmpR op_eq (pe_callB call_len_seq (by rfl) (B "len" (by decide +kernel)) PySem.boot_len (pa_cons (pv 1) pa_nil)) (pv 2) (nomark _))))))), ?_⟩
    have h16 := rr_pl0 r h14
    obtain ⟨t, rfl, ht⟩ := hu
    refine ⟨_, rfl, _, r, rfl, ha, h14, fun H1 s1 => ?_⟩
    refine ⟨_, rfl, _, xs, rfl, ⟨t, rfl, s1.tup ht⟩, by omega, fun H2 s2 => ?_⟩
    have t2 := s1.trans s2
    refine ⟨_, rfl, _, rfl, t, _, rfl, .inr (t2.tup ht), _, rfl, rfl, ?_⟩
    have e : decide (V.int (((xs.map V.int).length : Nat) : Int) = V.int (sizeL r)) = true := decide_eq_true (by rw [List.length_map, hl, rr_szl r h14])
    show Q (.bl (decide (V.int (((xs.map V.int).length : Nat) : Int) = V.int (sizeL r)))) H2
    rw [e]
    exact k H2 t2
theorem scChkWhole : FnScope ["rings", "whole"] ["rings", "whole"] (defScope sChkWhole) := ⟨rfl, rfl, rfl, by decide +kernel, rfl, by decide +kernel, by decide +kernel⟩
theorem ok_chkWhole (F : FnP K "check_whole" sChkWhole f fd) (F1 : FnP K "is_whole" sIsWhole f1 fd1) (g1 : mg "is_whole" = some (.ref f1)) (G1 : FnOk P w K mg base CX0 6 f1 fd1 ["rings", "thing"] (spWhole K (.bl true))) : FnOk P w K mg base CX0 7 f fd ["rings", "whole"] (spWhole K .non) := by
  have b1 : Binds K fd1 ["rings", "thing"] [] := F1.bindsN fun _ _ _ _ _ _ us hl => match us, hl with | [_, _], _ => rfl
  refine F.ok scChkWhole (fun vs H Q E h => ?_) (fun cdv A outer s H vs Q E hr h => ?_)
  · obtain ⟨v, u, r, xs, rfl, _⟩ := h
    rfl
  · obtain ⟨v, u, r, xs, rfl, ha, hu, h14, hl, k⟩ := h
    refine ⟨_, PSs.nox (pss_one (ps_if (pt_not (pt_val (pe_call G1 hr rfl g1 F1.kp b1 .nil pass0 (pa_cons (pv 0) (pa_cons (pv 1) pa_nil))))) (pss_one ps_never) pss_nil)), ?_⟩
    exact ⟨_, rfl, _, rfl, _, _, r, xs, rfl, ha, hu, h14, hl, fun H1 s1 => ⟨_, rfl, iteF (k H1 s1)⟩⟩
end
end K08

/-! whole_of. -/
namespace K08
open PySem PySem.Spec PyProof.Rows L2
theorem cut1 {ns : List Int} (h : 1 ≤ ns.length) : cutV (ns.map V.int) (some 1) none = (ns.drop 1).map V.int := by
  have e1 : HT.sIx (ns.map V.int).length 0 (some 1) = 1 := by
    rw [List.length_map]
    show min (Int.toNat 1) ns.length = 1
    have : Int.toNat 1 = 1 := rfl
    omega
  unfold cutV
  rw [e1, ← List.map_drop]
  show ((ns.drop 1).map V.int).take ((ns.map V.int).length - 1) = _
  rw [List.take_of_length_le (by rw [List.length_map, List.length_map, List.length_drop]; exact Nat.le_refl _)]
theorem cut1_not {ns : List Int} (h : 1 ≤ ns.length) : ¬ (HT.sIx (ns.map V.int).length 0 (some 1) = 0 ∧ HT.sIx (ns.map V.int).length (ns.map V.int).length none = (ns.map V.int).length) := fun z => by
  have e := z.1
  rw [List.length_map] at e
  have e' : min (Int.toNat 1) ns.length = 0 := e
  have : Int.toNat 1 = 1 := rfl
  omega
section
variable {P : Program} {w : World} {K : PySem.W.Frag} {mg : Str → Option Value} {base : Heap} {f f1 f2 f3 f4 f5 C fI fM : Addr} {fd fd1 fd2 fd3 fd4 fd5 fdI : FuncData}
def spWO (K : PySem.W.Frag) : Sp := fun vs H Q _ => ∃ (v u : V) (r : List Int) (ns : List Num), vs = [v, u] ∧ TupI K H v r ∧ RowAt K H u ns ∧ r ∈ RR ∧ RowG r ns ∧ (ns.any notWh = true → ∀ H', Same H H' → Q .non H') ∧ (ns.any notWh = false → ∀ t H', Same H H' → H' t = some (.tup ((ns.map fun n => n.1.getD 0 0).map V.int)) → Q (.ref t) H')
abbrev woN : List Str := ["rings", "row", "tops", "bottom", "_"]
theorem scWO : FnScope woN ["rings", "row"] (defScope sWholeOf) := ⟨rfl, rfl, rfl, by decide +kernel, rfl, by decide +kernel, by decide +kernel⟩
theorem ok_wof (F : FnP K "whole_of" sWholeOf f fd) (B : Bl mg) (Ba : mg "any" = none) (F1 : FnP K "check_row" sChkRow f1 fd1) (g1 : mg "check_row" = some (.ref f1)) (G1 : FnOk P w K mg base CX0 7 f1 fd1 ["rings", "row"] (spRow K .non)) : FnOk P w K mg base CX0 8 f fd ["rings", "row"] (spWO K) := by
  have b1 : Binds K fd1 ["rings", "row"] [] := F1.bindsN fun _ _ _ _ _ _ us hl => match us, hl with | [_, _], _ => rfl
  refine F.ok scWO (fun vs H Q E h => ?_) (fun cdv A outer s H vs Q E hr h => ?_)
  · obtain ⟨v, u, r, ns, rfl, _⟩ := h
    rfl
  · obtain ⟨v, u, r, ns, rfl, ha, hR, h14, ro, k1, k2⟩ := h
    refine ⟨_, PSs.nox (pss_cons (ps_expr (pe_call G1 hr rfl g1 F1.kp b1 .nil pass0 (pa_cons (pv 0) (pa_cons (pv 1) pa_nil))))
      (pss_cons (ps_if (pt_val (pe_callB (cr_any rfl) (by rfl) Ba (by decide +kernel) (pa_cons
          (pe_lc (own := [("tops", 2), ("bottom", 3)]) (g := gTup K 2 (gCons (gName 2) (gCons (gName 3) gNil))) (tt := tYes) (te := tOrV (tOp rNe (tVar 3) (tC (.int 1))) (tCB (rAnyT K) (tCons (tSl (rSlT K) (tVar 2) (tPart (tC (.int 1))) tNoPart) tNil))) rfl scWO.nd (pi_tup (pv 1)) (blkOk_by (own := [("tops", 2), ("bottom", 3)]) (N := woN) (sc := defScope sWholeOf) (by decide +kernel))
            (fun _ _ _ _ _ => pg_tup rfl (pgs_cons (pg_name (i := 2) scWO.nd rfl (Or.inl rfl)) (pgs_cons (pg_name (i := 3) scWO.nd rfl (Or.inl rfl)) pgs_nil))) (fun _ _ _ _ _ => pts_nil)
            (fun _ _ _ _ _ => pe_or (pe_cmpR op_ne (pv 3) pe_int (nomark _)) (pe_one (pe_callB (cr_anyT rfl) (by rfl) Ba (by decide +kernel) (pa_cons (pe_slice sl_tup (pv 2) (po_some pe_int) po_none) pa_nil))))) pa_nil))) (pss_one (ps_ret pe_non)) pss_nil)
      (pss_one (ps_ret (pe_callTy call_tuple_of (by rfl) (B "tuple" (by decide +kernel)) (by decide +kernel) (pa_cons
          (pe_lc (own := [("tops", 2), ("_", 4)]) (g := gTup K 2 (gCons (gName 2) (gCons (gName 4) gNil))) (tt := tYes) (te := tOp (rIxT K) (tVar 2) (tC (.int 0))) rfl scWO.nd (pi_tup (pv 1)) (blkOk_by (own := [("tops", 2), ("_", 4)]) (N := woN) (sc := defScope sWholeOf) (by decide +kernel))
            (fun _ _ _ _ _ => pg_tup rfl (pgs_cons (pg_name (i := 2) scWO.nd rfl (Or.inl rfl)) (pgs_cons (pg_name (i := 4) scWO.nd rfl (Or.inl rfl)) pgs_nil))) (fun _ _ _ _ _ => pts_nil)
            (fun _ _ _ _ _ => pe_ix ix_tup (pv 2) pe_int (fun _ _ => rfl))) pa_nil)))))), ?_⟩
    obtain ⟨q, us, rfl, hq, hN⟩ := id hR
    have eb := er_bd _ (er_in r h14)
    have eu := er_units _ (er_in r h14)
    have h16 := rr_pl0 r h14
    have lns := ro.ok.len
    refine ⟨_, rfl, _, rfl, _, _, r, ns, rfl, ha, hR, h14, ro, fun H1 s1 => ?_⟩
    refine ⟨_, rfl, q, rfl, ⟨_, s1.tup hq⟩, fun D hD => ?_⟩
    refine lc_tup (K := K) (a := q) (xs := us) (fun i H2 => Same H1 H2 ∧ H2 D = some (.lst (((ns.take i).map notWh).map V.bl))) ⟨same_upd hD, by rw [upd_same]; rfl⟩ (fun i H2 _ ⟨s2, _⟩ => s2.tup (s1.tup hq)) ?_ ?_
    · rintro i y H2 hi ⟨s2, h2⟩
      obtain ⟨n, hn, p, t, rfl, hp, ht⟩ := hN.get hi
      have il := ltL hn
      have nl := (ro.num n (List.mem_of_getElem? hn)).len
      have s12 := s1.trans s2
      have fin : ∀ H3, Same H2 H3 → ∃ acc, H3 D = some (.lst acc) ∧ acc.length < sizeLine ∧ Same H1 (upd H3 D (.lst (acc ++ [V.bl (notWh n)]))) ∧ upd H3 D (.lst (acc ++ [V.bl (notWh n)])) D = some (.lst (((ns.take (i + 1)).map notWh).map V.bl)) := fun H3 s3 => by
        refine ⟨_, s3 _ _ h2, sl_lt (by rw [List.length_map, List.length_map, List.length_take]; omega), same_at (s2.trans s3) hD, ?_⟩
        rw [upd_same, takeS hn, List.map_append, List.map_append]
        rfl
      refine ⟨p, _, rfl, s12.tup hp, rfl, _, _, rfl, _, _, rfl, rfl, rfl, _, rfl, rfl, _, rfl, ?_⟩
      refine ite2 (fun c => ?_) (fun c => ?_)
      · have e : notWh n = true := by
          unfold notWh
          have c' : ¬ n.2 = 1 := by simpa using c
          simp [c']
        have f := fin H2 (Same.refl _)
        rw [e] at f
        exact f
      · have c' : n.2 = 1 := by simpa using c
        refine ⟨_, rfl, 1, rfl, t, _, rfl, s12.tup ht, cut1_not (by omega), fun p2 hp2 => ?_⟩
        rw [cut1 (by omega)]
        have e : someN (n.1.drop 1) = notWh n := by
          unfold notWh
          simp [c']
        refine ⟨p2, n.1.drop 1, rfl, SqT.of upd_same, ?_⟩
        rw [e]
        exact fin _ (same_upd hp2)
    · rintro H2 ⟨s2, h2⟩
      rw [hN.1, List.take_length] at h2
      have s12 := s1.trans s2
      refine ⟨D, _, rfl, SqL.of h2, _, rfl, ?_⟩
      have ea : (ns.map notWh).any id = ns.any notWh := by
        rw [List.any_map]
        rfl
      rw [ea]
      refine ite2 (fun c => ?_) (fun c => ?_)
      · exact k1 c H2 s12
      · have c' : ns.any notWh = false := by simpa using c
        refine ⟨_, rfl, q, rfl, ⟨_, s12.tup hq⟩, fun D2 hD2 => ?_⟩
        refine lc_tup (K := K) (a := q) (xs := us) (fun i H3 => Same H2 H3 ∧ H3 D2 = some (.lst (((ns.take i).map fun n => n.1.getD 0 0).map V.int))) ⟨same_upd hD2, by rw [upd_same]; rfl⟩ (fun i H3 _ ⟨s3, _⟩ => s3.tup (s12.tup hq)) ?_ ?_
        · rintro i y H3 hi ⟨s3, h3⟩
          obtain ⟨n, hn, p, t, rfl, hp, ht⟩ := hN.get hi
          have il := ltL hn
          have nl := (ro.num n (List.mem_of_getElem? hn)).len
          have s13 := s12.trans s3
          refine ⟨p, _, rfl, s13.tup hp, rfl, _, _, rfl, _, _, rfl, rfl, rfl, _, rfl, t, _, ((0 : Nat) : Int), _, rfl, rfl, s13.tup ht, atI_nat (j := 0) (getD_of (by omega)), ?_⟩
          refine ⟨_, h3, sl_lt (by rw [List.length_map, List.length_map, List.length_take]; omega), same_at s3 hD2, ?_⟩
          rw [upd_same, takeS hn, List.map_append, List.map_append]
          rfl
        · rintro H3 ⟨s3, h3⟩
          rw [hN.1, List.take_length] at h3
          refine ⟨D2, _, rfl, .inl ⟨SqL.of h3, fun t ht => ?_⟩⟩
          exact k2 c' t _ ((s12.trans s3).trans (same_upd ht)) upd_same
end
end K08

/-! tuple * 0, tuple * 1. -/
namespace K08
open PySem PySem.Spec PyProof.Rows L2
theorem tuple_mul0 (l : Addr) (items : Array Value) (n : Nat) (dd : Option Addr) (sl : Array (Option Value)) (u : Tok) (hne : items.isEmpty = false) :
    Meets (Builtin.«tuple.__mul__» ⟨[.ref l, .int 0 u], []⟩) (fun _ R s => s.heap.get? l = some { cls := .type "tuple", dict := dd, data := .seq items n, slots := sl } ∧
      R (.ok (.ret (Value.ref s.heap.objs.size))) { s with heap := s.heap.push { cls := Value.type "tuple", data := Data.seq #[] }, toks := s.toks }) :=
  .of_wp fun prog w A R s h => by
    obtain ⟨hp, g, d, tk, os⟩ := s
    obtain ⟨hl, h⟩ := h
    have f1 := AutoSeq1.idx_int
    have c1 : (items.isEmpty || (0 : Int) == 1) = false := by rw [hne]; rfl
    wp_walk using wpAny_loadPart' hl
    exact ⟨_, rfl, h⟩
theorem tuple_mul1 (l : Addr) (items : Array Value) (n : Nat) (dd : Option Addr) (sl : Array (Option Value)) (u : Tok) :
    Meets (Builtin.«tuple.__mul__» ⟨[.ref l, .int 1 u], []⟩) (fun _ R s => s.heap.get? l = some { cls := .type "tuple", dict := dd, data := .seq items n, slots := sl } ∧ R (.ok (.ret (Value.ref l))) s) :=
  .of_wp fun prog w A R s h => by
    obtain ⟨hp, g, d, tk, os⟩ := s
    obtain ⟨hl, h⟩ := h
    have f1 := AutoSeq1.idx_int
    wp_walk using wpAny_loadPart' hl
    exact ⟨_, rfl, h⟩
def rRepT1 (K : PySem.W.Frag) : R2 := fun x y H Q => ∃ l xs, x = .ref l ∧ y = .int 1 ∧ SqT K H l xs ∧ Q (.ref l) H
section
variable {X : Cx}
theorem op_repT1 : OpR X (binaryOp .Mult) (rRepT1 X.K) := by
  intro pins s σ H x y v u Q I rx ry h
  obtain ⟨l, xs, rfl, rfl, hT, q⟩ := h
  cases rx
  obtain ⟨t, rfl⟩ := ry
  obtain ⟨its, r, ⟨⟨cls, dd, data, sl⟩, ho, hc, n, hd⟩, hs⟩ := I.tuple hT
  simp only at hc hd
  subst hc hd
  refine wpAny_binaryOp_repeat_ref (T := "tuple") (U := "int") (by decide) ⟨_, ho, rfl⟩ (fun s' => typeIs_int s' 1 t) noFill_tuple_mul F.fills_int_mul F.slot_int_rmul repeat_tuple F.slot_int_index.lookup
    (call_meets F.slot_int_rmul (typeIs_int s 1 t) F.entry_int_rmul (F.args_int_rmul_2 _ _) (int_rmul_tuple 1 t l its.toArray n dd sl)
      ⟨ho, rfl, ⟨_, ho, rfl⟩, call_meets F.slot_tuple_mul ⟨_, ho, rfl⟩ F.entry_tuple_mul (F.args_tuple_mul_2 _ _) (tuple_mul1 l its.toArray n dd sl t) ⟨ho, ?_⟩⟩)
  exact ⟨.ref l, H, I, rfl, q⟩
def rRepT0 (K : PySem.W.Frag) : R2 := fun x y H Q => ∃ l xs, x = .ref l ∧ y = .int 0 ∧ SqT K H l xs ∧ xs ≠ [] ∧ ∀ p, H p = none → Q (.ref p) (upd H p (.tup []))
theorem op_repT0 : OpR X (binaryOp .Mult) (rRepT0 X.K) := by
  intro pins s σ H x y v u Q I rx ry h
  obtain ⟨l, xs, rfl, rfl, hT, hxs, q⟩ := h
  cases rx
  obtain ⟨t, rfl⟩ := ry
  obtain ⟨its, r, ⟨⟨cls, dd, data, sl⟩, ho, hc, n, hd⟩, hs⟩ := I.tuple hT
  simp only at hc hd
  subst hc hd
  have hle : its.length = xs.length := r.length.symm
  have hi : its.toArray.isEmpty = false := by
    cases its with
    | nil => exact absurd (List.eq_nil_of_length_eq_zero hle.symm) hxs
    | cons a b => rfl
  refine wpAny_binaryOp_repeat_ref (T := "tuple") (U := "int") (by decide) ⟨_, ho, rfl⟩ (fun s' => typeIs_int s' 0 t) noFill_tuple_mul F.fills_int_mul F.slot_int_rmul repeat_tuple F.slot_int_index.lookup
    (call_meets F.slot_int_rmul (typeIs_int s 0 t) F.entry_int_rmul (F.args_int_rmul_2 _ _) (int_rmul_tuple 0 t l its.toArray n dd sl)
      ⟨ho, rfl, ⟨_, ho, rfl⟩, call_meets F.slot_tuple_mul ⟨_, ho, rfl⟩ F.entry_tuple_mul (F.args_tuple_mul_2 _ _) (tuple_mul0 l its.toArray n dd sl t hi) ⟨ho, ?_⟩⟩)
  refine ⟨.ref s.heap.objs.size, _, I.laid (t' := s.toks) (o := .tup []) (fun b ob q => Heap.get?_push_of_some _ q) (Nat.le_refl _) ?_, rfl, q _ (I.hok.fresh (Nat.le_refl _))⟩
  exact ⟨Nat.zero_le _, [], .nil, IsTup.new _ _⟩
end
/-- (0,) * k, k from 0 on -/
theorem rep_any {K : PySem.W.Frag} {H : Hp} {p0 : Addr} {m : Nat} {Q : VK} (h0 : SqT K H p0 [V.int 0]) (h2 : m ≤ 1000) (key : ∀ q H', Same H H' → SqT K H' q (List.replicate m (V.int 0)) → Q (.ref q) H') :
    rRepT0 K (.ref p0) (.int (m : Int)) H Q ∨ rRepT1 K (.ref p0) (.int (m : Int)) H Q ∨ rRepT K (.ref p0) (.int (m : Int)) H Q := by
  match m, h2, key with
  | 0, _, key => exact .inl ⟨p0, _, rfl, rfl, h0, by simp, fun p hp => key p _ (same_upd hp) (SqT.of upd_same)⟩
  | 1, _, key => exact .inr (.inl ⟨p0, _, rfl, rfl, h0, key p0 H (Same.refl H) h0⟩)
  | n + 2, h2, key => exact .inr (.inr ⟨p0, _, _, rfl, rfl, h0, by simp, by omega, by omega, by decide, fun p hp => key p _ (same_upd hp) (SqT.of (by rw [upd_same, Int.toNat_natCast, rep_flat]))⟩)
end K08

/-! row_of. -/
namespace K08
open PySem PySem.Spec PyProof.Rows L2
theorem g_noT {a e po d pl} : (flds a e po d pl).lookup ("tops_of" : Str) = none := by
  unfold flds
  rw [lk (by decide +kernel), lk (by decide +kernel), lk (by decide +kernel), lk (by decide +kernel), lk (by decide +kernel)]
  rfl
section
variable {P : Program} {w : World} {K : PySem.W.Frag} {mg : Str → Option Value} {base : Heap} {f f1 f2 f3 f4 f5 C fI fM fT : Addr} {fd fd1 fd2 fd3 fd4 fd5 fdI fdT : FuncData}
def spTopsOf (K : PySem.W.Frag) (C : Addr) : Sp := fun vs H Q _ => ∃ (p : Addr) (x : Int) (r : List Int), vs = [.ref p, .int x] ∧ FloorAt K C H p r ∧ r ∈ RR ∧ ∀ t H', Same H H' → SqT K H' t ((whN r x).1.map V.int) → Q (.ref t) H'
theorem scTopsOf : FnScope ["self", "whole"] ["self", "whole"] (defScope sFTops) := ⟨rfl, rfl, rfl, by decide +kernel, rfl, by decide +kernel, by decide +kernel⟩
theorem ok_topsOf (F : FunD K "tops_of" "Floor.tops_of" (defArgs sFTops) (defBody sFTops) (defScope sFTops) [] [] f fd) (T : FlT K mg C fI fM) (aG : NoAttr K C "degree") : FnOk P w K mg base CX0 1 f fd ["self", "whole"] (spTopsOf K C) := by
  refine F.ok scTopsOf (fun vs H Q E h => ?_) (fun cdv A outer s H vs Q E hr h => ?_)
  · obtain ⟨p, x, r, rfl, _⟩ := h
    rfl
  · obtain ⟨p, x, r, rfl, hF, h14, k⟩ := h
    refine ⟨_, PSs.nox (pss_one (ps_ret (pe_op op_catA (pe_tup (pa_cons (pv 1) pa_nil)) (pe_op (op_repT0.or (op_repT1.or op_repT)) (pe_tup (pa_cons pe_int pa_nil)) (pe_op op_sub (pe_fld (pv 0) rfl) pe_int))))), ?_⟩
    obtain ⟨dx, ar, po, pl, h1, h2, h3, h4⟩ := id hF
    have ep := er_poly _ (er_in r h14)
    have eb := er_bd _ (er_in r h14)
    refine ⟨_, rfl, by show 1 ≤ sizeLine; decide, fun a ha => ?_⟩
    have sa : Same H (upd H a (.tup [.int x])) := same_upd ha
    refine ⟨by show 1 ≤ sizeLine; decide, fun z hz => ?_⟩
    have sz := same_new (o := .tup [.int 0]) sa hz
    refine ⟨_, rfl, p, C, dx, _, _, rfl, sz _ _ h1, T.cl, aG, g_degree, _, _, rfl, rfl, ?_⟩
    have em : ((polyL (ordL r)).length : Int) - 1 - 1 = (((polyL (ordL r)).length - 2 : Nat) : Int) := by omega
    show rRepT0 K (.ref z) (.int (((polyL (ordL r)).length : Int) - 1 - 1)) _ _ ∨ rRepT1 K (.ref z) (.int (((polyL (ordL r)).length : Int) - 1 - 1)) _ _ ∨ rRepT K (.ref z) (.int (((polyL (ordL r)).length : Int) - 1 - 1)) _ _
    rw [em]
    refine rep_any (SqT.of upd_same) (by omega) fun q H' s1 hq => ?_
    have hA : SqT K H' a [V.int x] := s1.tup ((same_upd hz).tup (SqT.of upd_same))
    have s2 := sz.trans s1
    refine ⟨a, q, _, _, rfl, rfl, hA, hq, sl_1000 (by rw [List.length_replicate]; show 1 + _ ≤ _; omega), fun z => by simp at z, fun _ hz => ?_, fun _ _ p2 hp2 => ?_⟩
    · refine k a H' s2 ?_
      have e : (polyL (ordL r)).length - 2 = 0 := by
        have := congrArg List.length hz
        rw [List.length_replicate] at this
        exact this
      unfold whN
      rw [e]
      exact hA
    · refine k p2 _ (s2.trans (same_upd hp2)) (SqT.of ?_)
      rw [upd_same]
      unfold whN
      simp
def spRO (K : PySem.W.Frag) : Sp := fun vs H Q _ => ∃ (v u : V) (r xs : List Int), vs = [v, u] ∧ TupI K H v r ∧ TupI K H u xs ∧ r ∈ RR ∧ xs.length = (placesL r).length ∧ ∀ v' H', Same H H' → RowAt K H' v' (rofL r xs) → Q v' H'
abbrev roN : List Str := ["rings", "whole", "floor", "item"]
theorem scRO : FnScope roN ["rings", "whole"] (defScope sRowOf) := ⟨rfl, rfl, rfl, by decide +kernel, rfl, by decide +kernel, by decide +kernel⟩
theorem ok_rowOf (F : FnP K "row_of" sRowOf f fd) (B : Bl mg) (T : FlT K mg C fI fM) (MT : Meth K C "tops_of" fT) (FI : FunD K "__init__" "Floor.__init__" (defArgs sFInit) (defBody sFInit) (defScope sFInit) [] [] fI fdI) (GI : FnOk P w K mg base CX0 3 fI fdI ["self", "rings"] (spFInit K C))
    (FT : FunD K "tops_of" "Floor.tops_of" (defArgs sFTops) (defBody sFTops) (defScope sFTops) [] [] fT fdT) (GT : FnOk P w K mg base CX0 1 fT fdT ["self", "whole"] (spTopsOf K C))
    (F1 : FnP K "check_whole" sChkWhole f1 fd1) (g1 : mg "check_whole" = some (.ref f1)) (G1 : FnOk P w K mg base CX0 7 f1 fd1 ["rings", "whole"] (spWhole K .non)) : FnOk P w K mg base CX0 8 f fd ["rings", "whole"] (spRO K) := by
  have bI : Binds K fdI ["self", "rings"] [] := FI.bindsN fun _ _ _ _ _ _ us hl => match us, hl with | [_, _], _ => rfl
  have bT : Binds K fdT ["self", "whole"] [] := FT.bindsN fun _ _ _ _ _ _ us hl => match us, hl with | [_, _], _ => rfl
  have b1 : Binds K fd1 ["rings", "whole"] [] := F1.bindsN fun _ _ _ _ _ _ us hl => match us, hl with | [_, _], _ => rfl
  refine F.ok scRO (fun vs H Q E h => ?_) (fun cdv A outer s H vs Q E hr h => ?_)
  · obtain ⟨v, u, r, xs, rfl, _⟩ := h
    rfl
  · obtain ⟨v, u, r, xs, rfl, ⟨a, rfl, ha⟩, hu, h14, hl, k⟩ := h
    refine ⟨_, PSs.nox (pss_cons (ps_expr (pe_call G1 hr rfl g1 F1.kp b1 .nil pass0 (pa_cons (pv 0) (pa_cons (pv 1) pa_nil))))
      (pss_cons (ps_set (i := 2) scRO.nd rfl (Or.inr rfl) (pe_make T.mkk GI (hr.mono (by decide)) rfl T.mgC bI .nil pass0 (pa_cons (pv 0) pa_nil)))
      (pss_one (ps_ret (pe_callTy call_tuple_of (by rfl) (B "tuple" (by decide +kernel)) (by decide +kernel) (pa_cons
        (pe_lc (own := [("item", 3)]) (g := gName 3) (tt := tYes) (te := tTup (tCons (tMeth C "tops_of" (spTopsOf K C) [] E0 (tVar 2) (tCons (tVar 3) tNil)) (tCons (tC (.int 1)) tNil))) rfl scRO.nd (pi_tup (pv 1)) (blkOk_by (own := [("item", 3)]) (N := roN) (sc := defScope sRowOf) (by decide +kernel))
          (fun _ _ _ _ _ => pg_name (i := 3) scRO.nd rfl (Or.inl rfl)) (fun _ _ _ _ _ => pts_nil) (fun _ _ _ _ _ => pe_tup (pa_cons (pe_meth (pv 2) T.cl MT GT (hr.mono (by decide)) bT .nil pass0 (pa_cons (pv 3) pa_nil)) (pa_cons pe_int pa_nil)))) pa_nil)))))), ?_⟩
    obtain ⟨q, rfl, hq⟩ := hu
    have h16 := rr_pl0 r h14
    refine ⟨_, rfl, _, rfl, _, _, r, xs, rfl, ⟨a, rfl, ha⟩, ⟨q, rfl, hq⟩, h14, hl, fun H1 s1 => ?_⟩
    refine ⟨_, rfl, fun p dx np ndx nex => ?_⟩
    have tn : Same H1 (upd (upd H1 dx (.own p)) p (.ins C dx [])) := same_new (same_upd ndx) (by rw [upd_ne (Ne.symm nex)]; exact np)
    refine ⟨p, dx, _, r, rfl, upd_same, ⟨a, rfl, tn.tup (s1.tup ha)⟩, h14, fun H3 hF kp => ⟨rfl, ?_⟩⟩
    have s3 : Same H1 H3 := Same.made np ndx kp
    have t3 := s1.trans s3
    obtain ⟨dx', ar, po, pl, h1, h2, h3, h4⟩ := id hF
    refine ⟨_, rfl, q, rfl, ⟨_, t3.tup hq⟩, fun D hD => ?_⟩
    have tl : (rofL r xs).length = xs.length := by
      unfold rofL
      rw [List.length_map]
    refine lc_tup (K := K) (a := q) (xs := xs.map V.int) (fun i H4 => Same H3 H4 ∧ ∃ vs, H4 D = some (.lst vs) ∧ Nums K H4 vs ((rofL r xs).take i)) ⟨same_upd hD, [], upd_same, by rw [List.take_zero]; exact nums_nil⟩ (fun i H4 _ ⟨s4, _⟩ => s4.tup (t3.tup hq)) ?_ ?_
    · rintro i y H4 hi ⟨s4, vs, h4', tn4⟩
      obtain ⟨x, rfl, hx⟩ := getI hi
      have il := ltL hx
      refine ⟨rfl, _, rfl, p, dx', _, rfl, s4 _ _ h1, g_noT, _, rfl, p, x, r, rfl, s4.floor hF, h14, fun t H5 s5 ht => ?_⟩
      refine ⟨by show 2 ≤ sizeLine; decide, fun p2 hp2 => ?_⟩
      have s6 : Same H5 (upd H5 p2 (.tup [.ref t, .int 1])) := same_upd hp2
      generalize hH6 : upd H5 p2 (.tup [.ref t, .int 1]) = H6 at s6
      have hv' : NumAt K H6 (.ref p2) (whN r x) := ⟨p2, t, rfl, SqT.of (by rw [← hH6, upd_same]; rfl), s6.tup ht⟩
      have ul := tn4.1
      rw [List.length_take, tl] at ul
      have ev : (rofL r xs)[i]? = some (whN r x) := by
        unfold rofL
        rw [List.getElem?_map, hx]
        rfl
      have s56 := s5.trans s6
      refine ⟨vs, s56 _ _ h4', sl_lt (by omega), same_at (s4.trans s56) hD, vs ++ [.ref p2], upd_same, ?_⟩
      rw [takeS ev]
      have tn6 := s56.nums tn4
      have num_up : ∀ {v : V} {n : Num}, NumAt K H6 v n → NumAt K (upd H6 D (.lst (vs ++ [.ref p2]))) v n := fun ⟨p', t', e', q1, q2⟩ => ⟨p', t', e', sqt_at q1 (s56 _ _ h4'), sqt_at q2 (s56 _ _ h4')⟩
      exact Nums.snoc ⟨tn6.1, fun i v n e1 e2 => num_up (tn6.2 i v n e1 e2)⟩ (num_up hv')
    · rintro H4 ⟨s4, vs, h4', tn4⟩
      rw [List.length_map, ← tl, List.take_length] at tn4
      refine ⟨D, vs, rfl, .inl ⟨SqL.of h4', fun p2 hp2 => ?_⟩⟩
      have sp : Same H4 (upd H4 p2 (.tup vs)) := same_upd hp2
      exact k _ _ ((t3.trans s4).trans sp) ⟨p2, vs, rfl, SqT.of upd_same, sp.nums tn4⟩
end
end K08

/-! The deck: what the law draws by. -/
namespace K08
open PySem PySem.Spec PyProof.Rows L2
abbrev deckKV (l : Addr) (m k : Int) : List (Key × V) := [((.inr "cells" : Key), V.ref l), (.inr "mixed", .int m), (.inr "draws", .int k)]
/-- a deck at d, its cells at l -/
def DeckAt (d l : Addr) (H : Hp) : Prop := ∃ (ns : List Int) (m k : Int), H d = some (.dK (deckKV l m k)) ∧ H l = some (.lst (ns.map V.int)) ∧ ns.length ≤ 63
/-- all else stands as it was -/
def Keeps (d l : Addr) (H H' : Hp) : Prop := ∀ b o, H b = some o → b ≠ d → b ≠ l → H' b = some o
theorem Keeps.refl {d l : Addr} {H : Hp} : Keeps d l H H := fun _ _ e _ _ => e
theorem Keeps.trans {d l : Addr} {H H1 H2 : Hp} (a : Keeps d l H H1) (b : Keeps d l H1 H2) : Keeps d l H H2 := fun c o e h1 h2 => b c o (a c o e h1 h2) h1 h2
theorem Keeps.new {d l p : Addr} {H : Hp} {o : HO} (h : H p = none) : Keeps d l H (upd H p o) := fun b u e _ _ => by
  rw [upd_ne (ne_of_none e h)]
  exact e
theorem Keeps.atD {d l : Addr} {H : Hp} {o : HO} : Keeps d l H (upd H d o) := fun b u e h _ => by
  rw [upd_ne h]
  exact e
theorem Keeps.atL {d l : Addr} {H : Hp} {o : HO} : Keeps d l H (upd H l o) := fun b u e _ h => by
  rw [upd_ne h]
  exact e
theorem DeckAt.new {d l p : Addr} {H : Hp} {o : HO} (D : DeckAt d l H) (h : H p = none) : DeckAt d l (upd H p o) := by
  obtain ⟨ns, m, k, h1, h2, h3⟩ := D
  exact ⟨ns, m, k, by rw [upd_ne (ne_of_none h1 h)]; exact h1, by rw [upd_ne (ne_of_none h2 h)]; exact h2, h3⟩
theorem DeckAt.ne {d l : Addr} {H : Hp} (D : DeckAt d l H) : d ≠ l := by
  obtain ⟨ns, m, k, h1, h2, _⟩ := D
  exact ne_of h1 h2 (by intro z; cases z)
/-- one draw below n -/
def spDraw : Sp := fun vs H Q _ => ∃ (d l : Addr) (n : Int), vs = [.ref d, .int n] ∧ DeckAt d l H ∧ 1 ≤ n ∧ n < 1099511627776 ∧ ∀ r H', 0 ≤ r → r < n → DeckAt d l H' → Keeps d l H H' → Q (.int r) H'
/-- one of a list's items -/
def spPick (K : PySem.W.Frag) : Sp := fun vs H Q _ => ∃ (d l p : Addr) (xs : List V), vs = [.ref d, .ref p] ∧ DeckAt d l H ∧ H p = some (.lst xs) ∧ p ≠ l ∧ 1 ≤ xs.length ∧ xs.length < 1000000 ∧ ∀ v H', v ∈ xs → DeckAt d l H' → Keeps d l H H' → Q v H'
/-- a deck of a script -/
def spDeck (K : PySem.W.Frag) : Sp := fun vs H Q _ => ∃ (a : Addr) (ns : List Int), vs = [.ref a] ∧ SqL K H a (ns.map V.int) ∧ ns.length ≤ 63 ∧ ∀ d l H', DeckAt d l H' → (∀ b o, H b = some o → H' b = some o) → H d = none → H l = none → Q (.ref d) H'
section
theorem shaped_ints (ns : List Int) : SeqAt.shaped (.list (ns.map PyData.int)) = true := by
  have h1 : PyData.canLayAll0 (ns.map PyData.int) = true := by
    induction ns with
    | nil => rfl
    | cons n r ih => simp [PyData.canLayAll0, PyData.canLay0, ih]
  have h2 : PyData.depthAll (ns.map PyData.int) ≤ 1 := by
    induction ns with
    | nil => simp [PyData.depthAll]
    | cons n r ih =>
      have := ih (by simpa [PyData.canLayAll0, PyData.canLay0] using h1)
      simp only [List.map_cons, PyData.depthAll, PyData.depth]
      omega
  unfold SeqAt.shaped
  rw [Bool.and_eq_true]
  have h3 : (PyData.list (ns.map PyData.int)).depth ≤ 64 := by
    simp only [PyData.depth]
    omega
  exact ⟨by simpa [PyData.canLay0] using h1, decide_eq_true h3⟩
theorem eqv_nil : ∀ ns : List Int, PyData.eqv (.list (ns.map PyData.int)) (.list []) = decide (ns = []) := by
  intro ns
  cases ns with
  | nil => rfl
  | cons n r => simp [PyData.eqv, PyData.eqvAll]
theorem ne_cm : ¬ (Sum.inr "cells" : Key) = .inr "mixed" := fun z => absurd (Sum.inr.inj z) (by decide +kernel)
theorem ne_cd : ¬ (Sum.inr "cells" : Key) = .inr "draws" := fun z => absurd (Sum.inr.inj z) (by decide +kernel)
theorem ne_md : ¬ (Sum.inr "mixed" : Key) = .inr "draws" := fun z => absurd (Sum.inr.inj z) (by decide +kernel)
theorem val_cells {l : Addr} {m k : Int} : valV (deckKV l m k) (.inr "cells") = some (.ref l) := by
  rw [L2.valV_pos rfl]
theorem val_mixed {l : Addr} {m k : Int} : valV (deckKV l m k) (.inr "mixed") = some (.int m) := by
  rw [L2.valV_neg ne_cm, L2.valV_pos rfl]
theorem val_turn {l : Addr} {m k : Int} : valV (deckKV l m k) (.inr "draws") = some (.int k) := by
  rw [L2.valV_neg ne_cd, L2.valV_neg ne_md, L2.valV_pos rfl]
theorem put_turn {l : Addr} {m k j : Int} : putK (deckKV l m k) (.inr "draws") (.int j) = deckKV l m j := by
  have h1 : ¬ Str.ofString "cells" = Str.ofString "draws" := by decide +kernel
  have h2 : ¬ Str.ofString "mixed" = Str.ofString "draws" := by decide +kernel
  simp [putK, deckKV, h1, h2]
theorem get_cells {H : Hp} {d l : Addr} {m k : Int} (h : H d = some (.dK (deckKV l m k))) : DGet H d (.str "cells") (some (.ref l)) := by
  rw [← val_cells (l := l) (m := m) (k := k)]
  exact DGet.k (k := Sum.inr "cells") h
theorem get_mixed {H : Hp} {d l : Addr} {m k : Int} (h : H d = some (.dK (deckKV l m k))) : DGet H d (.str "mixed") (some (.int m)) := by
  rw [← val_mixed (l := l) (m := m) (k := k)]
  exact DGet.k (k := Sum.inr "mixed") h
theorem get_turn {H : Hp} {d l : Addr} {m k : Int} (h : H d = some (.dK (deckKV l m k))) : DGet H d (.str "draws") (some (.int k)) := by
  rw [← val_turn (l := l) (m := m) (k := k)]
  exact DGet.k (k := Sum.inr "draws") h
theorem put_turnD {H : Hp} {d l : Addr} {m k j : Int} (h : H d = some (.dK (deckKV l m k))) : DPut H d (.str "draws") (.int j) (upd H d (.dK (deckKV l m j))) := by
  rw [← put_turn (l := l) (m := m) (k := k) (j := j)]
  exact DPut.k (k := Sum.inr "draws") h (by show 3 < sizeLine; decide)
end
section
variable {P : Program} {w : World} {K : PySem.W.Frag} {mg : Str → Option Value} {base : Heap} {f fD : Addr} {fd fdD : FuncData}
theorem scDraw : FnScope ["deck", "many", "number", "cell"] ["deck", "many"] (defScope sDraw) := ⟨rfl, rfl, rfl, by decide +kernel, rfl, by decide +kernel, by decide +kernel⟩
theorem ok_draw (F : FnP K "_law_draw" sDraw f fd) (B : Bl mg) : FnOk P w K mg base CX0 1 f fd ["deck", "many"] spDraw := by
  refine F.ok scDraw (fun vs H Q E h => ?_) (fun cdv A outer s H vs Q E hr h => ?_)
  · obtain ⟨d, l, n, rfl, _⟩ := h
    rfl
  · obtain ⟨d, l, n, rfl, D, hn1, hn2, k⟩ := h
    have hu := hu_of hr
    have dl := D.ne
    have int1 : ∀ X : Cx, X.mg = mg → True := fun _ _ => trivial
    obtain ⟨ns, m, j, h1, h2, h3⟩ := D
    refine ⟨_, pss_cons (ps_dput hu (pv 0) pe_str (pe_op op_add (pe_dget hu (pv 0) pe_str (fun _ _ => rfl)) pe_int) rfl)
      (pss_cons (ps_set (i := 2) scDraw.nd rfl (Or.inl rfl) (pe_op op_add (pe_dget hu (pv 0) pe_str (fun _ _ => rfl)) (pe_op op_mul pe_int (pe_dget hu (pv 0) pe_str (fun _ _ => rfl)))))
      (pss_cons (ps_if (pt_cmpR (op_neD (Nat.lt_of_le_of_lt (Nat.add_le_add_left (by decide : 64 ≤ 64) _) hr.units)) (pe_dget hu (pv 0) pe_str (fun _ _ => rfl)) (pe_lst pa_nil) (nomark _))
          (pss_cons (ps_set (i := 3) scDraw.nd rfl (Or.inl rfl) (pe_bm0 PySem.F.plainAttrs_list PySem.F.slot_list_pop PySem.F.type_list_pop mt_pop (pe_dget hu (pv 0) pe_str (fun _ _ => rfl))))
          (pss_cons (ps_if (pt_cmpR op_ge (pv 3) (pe_op op_pow pe_int pe_int) (nomark _))
              (pss_cons (ps_expr (pe_bm PySem.F.plainAttrs_list PySem.F.slot_list_append PySem.F.type_list_append mt_append (pe_dget hu (pv 0) pe_str (fun _ _ => rfl)) (pa_cons (pe_op op_fdivW (pv 3) (pe_callB (call_max2 rfl) (by rfl) (B "max" (by decide +kernel)) (by decide +kernel) (pa_cons pe_int (pa_cons (pv 1) pa_nil)))) pa_nil)))
              (pss_one (ps_ret (pe_op op_mod (pe_callTy call_int1 (by rfl) (B "int" (by decide +kernel)) (by decide +kernel) (pa_cons (pv 3) pa_nil)) (pv 1)))))
              pss_nil)
          (pss_one (ps_set (i := 2) scDraw.nd rfl (Or.inl rfl) (pe_op op_add (pv 2) (pe_op op_mod (pe_callTy call_int1 (by rfl) (B "int" (by decide +kernel)) (by decide +kernel) (pa_cons (pv 3) pa_nil)) pe_int))))))
          pss_nil)
      (pss_cons (ps_set (i := 2) scDraw.nd rfl (Or.inl rfl) (pe_op op_mod (pe_callTy call_int1 (by rfl) (B "int" (by decide +kernel)) (by decide +kernel) (pa_cons (pe_op op_add (pe_op op_mul (pv 2) pe_int) pe_int) pa_nil)) pe_int))
      (pss_cons (ps_set (i := 2) scDraw.nd rfl (Or.inl rfl) (pe_op op_mod (pe_callTy call_int1 (by rfl) (B "int" (by decide +kernel)) (by decide +kernel) (pa_cons (pe_op op_add (pe_op op_add (pe_op op_mul (pv 2) (pv 2)) (pe_op op_mul pe_int (pe_dget hu (pv 0) pe_str (fun _ _ => rfl)))) pe_int) pa_nil)) pe_int))
      (pss_cons (ps_set (i := 2) scDraw.nd rfl (Or.inl rfl) (pe_op op_mod (pe_callTy call_int1 (by rfl) (B "int" (by decide +kernel)) (by decide +kernel) (pa_cons (pe_op op_mul (pv 2) pe_int) pa_nil)) pe_int))
      (pss_one (ps_ret (pe_op op_mod (pe_callTy call_int1 (by rfl) (B "int" (by decide +kernel)) (by decide +kernel) (pa_cons (pe_op op_fdiv (pv 2) pe_int) pa_nil)) (pv 1))))))))), ?_⟩
    -- deck['draws'] = deck['draws'] + 1
    refine ⟨_, rfl, d, _, rfl, get_turn h1, _, _, rfl, rfl, _, rfl, d, _, rfl, put_turnD h1, ?_⟩
    generalize hH1 : upd H d (.dK (deckKV l m (j + 1))) = H1
    have g1 : H1 d = some (.dK (deckKV l m (j + 1))) := by rw [← hH1, upd_same]
    have g2 : H1 l = some (.lst (ns.map V.int)) := by rw [← hH1, upd_ne dl.symm]; exact h2
    have kp : Keeps d l H H1 := by rw [← hH1]; exact Keeps.atD
    generalize j + 1 = j1 at g1
    -- number = deck['mixed'] + 69621 * deck['draws']
    refine ⟨_, rfl, d, _, rfl, get_mixed g1, _, rfl, d, _, rfl, get_turn g1, _, _, rfl, rfl, Or.inl ⟨by decide, by decide⟩, _, _, rfl, rfl, ?_⟩
    -- if deck['cells'] != []
    refine ⟨_, rfl, d, _, rfl, get_cells g1, (by show 0 ≤ sizeLine; omega), fun p np => ?_⟩
    have npd : d ≠ p := ne_of_none g1 np
    have npl : l ≠ p := ne_of_none g2 np
    have g1' : ∀ o, upd H1 p o d = some (.dK (deckKV l m j1)) := fun o => by rw [upd_ne npd]; exact g1
    have g2' : ∀ o, upd H1 p o l = some (.lst (ns.map V.int)) := fun o => by rw [upd_ne npl]; exact g2
    refine ⟨.list (ns.map PyData.int), .list [], .lst (SqL.of (g2' _)) (dp_ints ns), .lst (SqL.of upd_same) .nil, shaped_ints ns, shaped_ints [], _, rfl, ?_⟩
    rw [eqv_nil]
    have kp1 : Keeps d l H (upd H1 p (.lst [])) := kp.trans (.new np)
    have hn0 : 0 < n := by omega
    have popped : ∀ c : Int, ns ≠ [] → (ns.map V.int)[(ns.map V.int).length - 1]? = some (.int c) → True := fun _ _ _ => trivial
    refine ite2 (fun hne => ?_) (fun he => ?_)
    · have hne' : ns ≠ [] := by
        intro z
        rw [z] at hne
        simp at hne
      have hpos : 0 < ns.length := List.length_pos_iff.mpr hne'
      obtain ⟨c, hc⟩ : ∃ c, (ns.map V.int)[(ns.map V.int).length - 1]? = some (.int c) := by
        rw [List.length_map, List.getElem?_map, List.getElem?_eq_getElem (by omega)]
        exact ⟨_, rfl⟩
      -- cell = deck['cells'].pop()
      refine ⟨_, rfl, d, _, rfl, get_cells (g1' _), Or.inl ⟨rfl, _, SqL.of (g2' _)⟩, l, _, _, rfl, rfl, g2' _, hc, ?_⟩
      generalize hH3 : upd (upd H1 p (.lst [])) l (.lst (ns.map V.int).dropLast) = H3
      have q1 : H3 d = some (.dK (deckKV l m j1)) := by rw [← hH3, upd_ne dl]; exact g1' _
      have q2 : H3 l = some (.lst (ns.dropLast.map V.int)) := by rw [← hH3, upd_same, List.map_dropLast]
      have kp3 : Keeps d l H H3 := by rw [← hH3]; exact kp1.trans .atL
      have hlen : (ns.dropLast).length + 1 ≤ 63 := by rw [List.length_dropLast]; omega
      -- if cell >= 10 ** 18
      refine ⟨_, rfl, _, _, rfl, rfl, ⟨by decide, by decide, by decide⟩, _, _, rfl, rfl, _, rfl, ite2 (fun _ => ?_) (fun _ => ?_)⟩
      · refine ⟨_, rfl, d, _, rfl, get_cells q1, Or.inl ⟨rfl, _, SqL.of q2⟩, _, rfl, _, rfl, _, _, rfl, _, _, rfl, rfl, ⟨by split <;> omega, (Nat.log2_lt (by split <;> omega)).mpr (Nat.lt_of_lt_of_le (show _ < 2 ^ 40 by split <;> omega) (Nat.pow_le_pow_right (by decide) (by decide)))⟩, l, _, _, rfl, rfl, q2, small1000 (by rw [List.length_map]; omega), ?_⟩
        refine ⟨_, rfl, Or.inl ⟨_, rfl, _, rfl, _, _, rfl, rfl, hn0, k _ _ (Int.emod_nonneg _ (by omega)) (Int.emod_lt_of_pos _ hn0) ⟨ns.dropLast ++ [c / (if n > 2 then n else 2)], m, j1, by rw [upd_ne dl]; exact q1, by rw [upd_same, List.map_append]; rfl, by rw [List.length_append]; exact hlen⟩ (kp3.trans .atL)⟩⟩
      · refine ⟨_, rfl, _, rfl, Or.inl ⟨_, rfl, _, _, rfl, rfl, (by show (0 : Int) < 2147483629; decide), _, _, rfl, rfl, ?_⟩⟩
        refine ⟨_, rfl, _, _, rfl, rfl, Or.inr ⟨by decide, by decide⟩, _, _, rfl, rfl, Or.inl ⟨_, rfl, _, _, rfl, rfl, (by show (0 : Int) < 2147483647; decide), ?_⟩⟩
        refine ⟨_, rfl, _, rfl, _, _, rfl, rfl, Or.inl ⟨by omega, by omega⟩, _, rfl, d, _, rfl, get_turn q1, _, _, rfl, rfl, Or.inl ⟨by decide, by decide⟩, _, _, rfl, rfl, _, _, rfl, rfl, Or.inl ⟨_, rfl, _, _, rfl, rfl, (by show (0 : Int) < 2147483587; decide), ?_⟩⟩
        refine ⟨_, rfl, _, _, rfl, rfl, Or.inr ⟨by decide, by decide⟩, Or.inl ⟨_, rfl, _, _, rfl, rfl, (by show (0 : Int) < 2147483563; decide), ?_⟩⟩
        exact ⟨_, rfl, _, _, rfl, rfl, ⟨by decide, by decide⟩, Or.inl ⟨_, rfl, _, rfl, _, _, rfl, rfl, hn0, k _ _ (Int.emod_nonneg _ (by omega)) (Int.emod_lt_of_pos _ hn0) ⟨ns.dropLast, m, j1, q1, q2, by omega⟩ kp3⟩⟩
    · refine ⟨_, rfl, _, _, rfl, rfl, Or.inr ⟨by decide, by decide⟩, _, _, rfl, rfl, Or.inl ⟨_, rfl, _, _, rfl, rfl, (by show (0 : Int) < 2147483647; decide), ?_⟩⟩
      refine ⟨_, rfl, _, rfl, _, _, rfl, rfl, Or.inl ⟨by omega, by omega⟩, _, rfl, d, _, rfl, get_turn (g1' _), _, _, rfl, rfl, Or.inl ⟨by decide, by decide⟩, _, _, rfl, rfl, _, _, rfl, rfl, Or.inl ⟨_, rfl, _, _, rfl, rfl, (by show (0 : Int) < 2147483587; decide), ?_⟩⟩
      refine ⟨_, rfl, _, _, rfl, rfl, Or.inr ⟨by decide, by decide⟩, Or.inl ⟨_, rfl, _, _, rfl, rfl, (by show (0 : Int) < 2147483563; decide), ?_⟩⟩
      exact ⟨_, rfl, _, _, rfl, rfl, ⟨by decide, by decide⟩, Or.inl ⟨_, rfl, _, rfl, _, _, rfl, rfl, hn0, k _ _ (Int.emod_nonneg _ (by omega)) (Int.emod_lt_of_pos _ hn0) ⟨ns, m, j1, g1' _, g2' _, h3⟩ kp1⟩⟩
end
end K08

namespace K08
open PySem PySem.Spec PyProof.Rows L2
theorem cut_ints (ns : List Int) (lo hi : Option Int) : ∃ ms : List Int, cutV (ns.map V.int) lo hi = ms.map V.int ∧ ms.length ≤ ns.length := by
  unfold cutV
  rw [← List.map_drop, ← List.map_take]
  exact ⟨_, rfl, by rw [List.length_take, List.length_drop]; omega⟩
section
variable {P : Program} {w : World} {K : PySem.W.Frag} {mg : Str → Option Value} {base : Heap} {f fD : Addr} {fd fdD : FuncData}
theorem scPick : FnScope ["deck", "some"] ["deck", "some"] (defScope sPick) := ⟨rfl, rfl, rfl, by decide +kernel, rfl, by decide +kernel, by decide +kernel⟩
theorem ok_pick (F : FnP K "_law_pick" sPick f fd) (FD : FnP K "_law_draw" sDraw fD fdD) (gD : mg "_law_draw" = some (.ref fD)) (B : Bl mg) : FnOk P w K mg base CX0 2 f fd ["deck", "some"] (spPick K) := by
  have GD : FnOk P w K mg base CX0 1 fD fdD ["deck", "many"] spDraw := ok_draw FD B
  have bD : Binds K fdD ["deck", "many"] [] := FD.bindsN fun _ _ _ _ _ _ us hl => match us, hl with | [_, _], _ => rfl
  refine F.ok scPick (fun vs H Q E h => ?_) (fun cdv A outer s H vs Q E hr h => ?_)
  · obtain ⟨d, l, p, xs, rfl, _⟩ := h
    rfl
  · obtain ⟨d, l, p, xs, rfl, D, hp, hpl, h1, h2, k⟩ := h
    have dp : p ≠ d := by
      obtain ⟨ns, m, j, q, _⟩ := D
      exact ne_of hp q (by intro z; cases z)
    refine ⟨_, PSs.nox (pss_one (ps_ret (pe_ix ix_list (pv 1) (pe_call GD hr rfl gD FD.kp bD .nil pass0 (pa_cons (pv 0) (pa_cons (pe_callB call_len_seq (by rfl) (B "len" (by decide +kernel)) PySem.boot_len (pa_cons (pv 1) pa_nil)) pa_nil))) (fun _ _ => rfl)))), ?_⟩
    refine ⟨_, rfl, _, rfl, _, rfl, p, _, rfl, .inl (SqL.of hp), d, l, _, rfl, D, by omega, by omega, fun r H' r0 r1 D' K' => ?_⟩
    obtain ⟨j, rfl⟩ := Int.eq_ofNat_of_zero_le r0
    have hj : j < xs.length := by omega
    exact ⟨p, _, _, _, rfl, rfl, SqL.of (K' _ _ hp dp hpl), atI_nat (List.getElem?_eq_getElem hj), k _ H' (List.getElem_mem hj) D' K'⟩
end
end K08

namespace K08
open PySem PySem.Spec PyProof.Rows L2
section
variable {P : Program} {w : World} {K : PySem.W.Frag} {mg : Str → Option Value} {base : Heap} {f fD : Addr} {fd fdD : FuncData}
theorem scDeck : FnScope ["script", "number", "cell"] ["script"] (defScope sDeck) := ⟨rfl, rfl, rfl, by decide +kernel, rfl, by decide +kernel, by decide +kernel⟩
theorem merge_deck (l : Addr) (m k : Int) : mergeK [] (deckKV l m k) = deckKV l m k := rfl
theorem ok_deck (F : FnP K "_law_deck" sDeck f fd) (B : Bl mg) : FnOk P w K mg base CX0 1 f fd ["script"] (spDeck K) := by
  refine F.ok scDeck (fun vs H Q E h => ?_) (fun cdv A outer s H vs Q E hr h => ?_)
  · obtain ⟨a, ns, rfl, _⟩ := h
    rfl
  · obtain ⟨a, ns, rfl, hS, hlen, k⟩ := h
    refine ⟨_, PSs.nox (pss_cons (ps_set (i := 1) scDeck.nd rfl (Or.inl rfl) pe_int)
      (pss_cons (ps_for PassesOwn.never rfl (pi_list (pe_slice sl_list (pv 0) po_none (po_some pe_int))) (pg_name (i := 2) scDeck.nd rfl (Or.inl rfl))
        (pss_one (ps_set (i := 1) scDeck.nd rfl (Or.inl rfl) (pe_op op_mod (pe_callTy call_int1 (by rfl) (B "int" (by decide +kernel)) (by decide +kernel) (pa_cons (pe_op op_add (pe_op op_add (pe_op op_mul (pv 1) pe_int) (pe_op op_mod (pe_callTy call_int1 (by rfl) (B "int" (by decide +kernel)) (by decide +kernel) (pa_cons (pv 2) pa_nil)) pe_int)) pe_int) pa_nil)) pe_int))))
      (pss_one (ps_ret (pe_disp (pps_cons pe_str (pe_revL (pe_callTy call_list_of (by rfl) (B "list" (by decide +kernel)) (by decide +kernel) (pa_cons (pe_slice sl_list (pv 0) po_none (po_some pe_int)) pa_nil))) (pps_cons pe_str (pv 1) (pps_cons pe_str pe_int pps_nil))) (by rfl) (by rfl) (fun z => by cases z) (by decide)))))), ?_⟩
    obtain ⟨ms, hms, hml⟩ := cut_ints ns none (some 63)
    have hm63 : ms.length ≤ 63 := Nat.le_trans hml hlen
    refine ⟨_, rfl, _, rfl, a, _, rfl, hS, fun p np => ?_⟩
    rw [hms]
    have s1 : Same H (upd H p (.lst (ms.map V.int))) := fun b o e => by
      rw [upd_ne (ne_of_none e np)]
      exact e
    generalize hH1 : upd H p (.lst (ms.map V.int)) = H1 at s1
    have hp : H1 p = some (.lst (ms.map V.int)) := by rw [← hH1, upd_same]
    refine ⟨p, rfl, ⟨_, SqL.of hp⟩, for_list (K := K) (a := p) (xs := ms.map V.int) (fun i σ H2 => ∃ (z : Int) (v : Option V), σ = [some (.ref a), some (.int z), v] ∧ H2 = H1) ⟨_, none, rfl, rfl⟩ (fun i σ H2 _ ⟨_, _, _, e⟩ => by rw [e]; exact SqL.of hp) ?_ ?_⟩
    · rintro i y σ H2 hi ⟨z, v, rfl, rfl⟩
      obtain ⟨c, rfl⟩ : ∃ c, y = V.int c := by
        rw [List.getElem?_map] at hi
        cases e : ms[i]? with
        | none =>
          rw [e] at hi
          cases hi
        | some c =>
          rw [e] at hi
          exact ⟨c, (Option.some.inj hi).symm⟩
      refine ⟨_, rfl, _, _, rfl, rfl, Or.inr ⟨by decide, by decide⟩, _, rfl, Or.inl ⟨_, rfl, _, _, rfl, rfl, (by show (0 : Int) < 2147483629; decide), _, _, rfl, rfl, _, _, rfl, rfl, Or.inl ⟨_, rfl, _, _, rfl, rfl, (by show (0 : Int) < 2147483587; decide), ?_⟩⟩⟩
      exact ⟨_, _, rfl, rfl⟩
    · rintro σ H2 ⟨z, v, rfl, rfl⟩
      intro d nd
      refine ⟨_, rfl, _, rfl, a, ns.map V.int, rfl, ?_, fun q nq => ?_⟩
      · have s2 : Same H2 (upd H2 d (.dK [])) := fun b o e => by
          rw [upd_ne (ne_of_none e nd)]
          exact e
        exact s2.seq (s1.seq hS)
      rw [hms]
      generalize hH3 : upd (upd H2 d (.dK [])) q (.lst (ms.map V.int)) = H3
      have s23 : Same H2 H3 := by
        rw [← hH3]
        exact same_new (same_upd nd) nq
      have h3q : H3 q = some (.lst (ms.map V.int)) := by rw [← hH3, upd_same]
      have h3d : H3 d = some (.dK []) := by
        rw [← hH3, upd_ne (ne_of_none (upd_same (H := H2)) nq)]
        exact upd_same
      refine ⟨q, _, rfl, .inl (SqL.of h3q), fun D hD => ?_⟩
      have s4 : Same H3 (upd H3 D (.lst (ms.map V.int))) := same_upd hD
      generalize hH4 : upd H3 D (.lst (ms.map V.int)) = H4 at s4
      have h4 : H4 D = some (.lst (ms.map V.int)) := by rw [← hH4, upd_same]
      refine ⟨D, _, rfl, SqL.of h4, fun l nl => ?_⟩
      have h5d : upd H4 l (.lst (ms.map V.int).reverse) d = some (.dK []) := by
        rw [upd_ne (ne_of_none (s4 _ _ h3d) nl)]
        exact s4 _ _ h3d
      have dl : l ≠ d := ne_of (upd_same (H := H4)) h5d (by intro z; cases z)
      refine ⟨_, rfl, h5d, deckKV l z 0, rfl, (by show 3 ≤ 15; decide), ?_⟩
      rw [merge_deck]
      have s15 : Same H (upd H4 l (.lst (ms.map V.int).reverse)) := same_new ((s1.trans s23).trans s4) nl
      refine k d l _ ⟨ms.reverse, z, 0, upd_same, ?_, by rw [List.length_reverse]; exact hm63⟩ (fun b o e => ?_) (s1.free nd) (((s1.trans s23).trans s4).free nl)
      · rw [upd_ne dl, upd_same, List.map_reverse]
      · rw [upd_ne (ne_of_none (s1 b o e) nd)]
        exact s15 b o e
end
end K08

namespace K08
open PySem PySem.Spec PyProof.Rows L2
abbrev rInt1 : List V → Hp → VK → Prop := fun xs H Q => (∃ i, xs = [.int i] ∧ Q (.int i) H) ∨ ∃ k, xs = [.bl k] ∧ Q (.int (if k then 1 else 0)) H
theorem gcdI_zero {a : Int} (h : 0 ≤ a) : gcdI a 0 = a := by
  unfold gcdI
  simp
  omega
theorem gcdI_step {a b : Int} (ha : 0 ≤ a) (hb : 0 < b) : gcdI b (a % b) = gcdI a b := by
  obtain ⟨m, rfl⟩ := Int.eq_ofNat_of_zero_le ha
  obtain ⟨n, rfl⟩ := Int.eq_ofNat_of_zero_le (show 0 ≤ b by omega)
  unfold gcdI
  have e : ((m : Int) % (n : Int)).natAbs = m % n := by
    rw [← Int.natCast_emod]
    rfl
  show ((Nat.gcd n ((m : Int) % (n : Int)).natAbs : Nat) : Int) = ((Nat.gcd m n : Nat) : Int)
  rw [e, Nat.gcd_comm n, ← Nat.gcd_rec, Nat.gcd_comm]
theorem gcdI_abs (a b : Int) : gcdI (if a < 0 then -a else a) (if b < 0 then -b else b) = gcdI a b := by
  unfold gcdI
  congr 2
  · split <;> omega
  · split <;> omega
section
variable {P : Program} {w : World} {K : PySem.W.Frag} {mg : Str → Option Value} {base : Heap} {f f1 f2 f3 f4 f5 : Addr} {fd fd1 fd2 fd3 fd4 fd5 : FuncData}
/-! ### _law_common -/
def spGcd : Sp := fun vs H Q _ => ∃ a b : Int, vs = [.int a, .int b] ∧ Q (.int (gcdI a b)) H
theorem scGcd : FnScope ["one", "other"] ["one", "other"] (defScope sLGcd) := ⟨rfl, rfl, rfl, by decide +kernel, rfl, by decide +kernel, by decide +kernel⟩
theorem ok_gcd (F : FnP K "_law_gcd" sLGcd f fd) (B : Bl mg) : FnOk P w K mg base CX0 1 f fd ["one", "other"] spGcd := by
  refine F.ok scGcd (fun vs H Q E h => ?_) (fun cdv A outer s H vs Q E hr h => ?_)
  · obtain ⟨a, b, rfl, _⟩ := h
    rfl
  · obtain ⟨a, b, rfl, k⟩ := h
    refine ⟨_, PSs.nox (pss_cons (ps_par (i := 0) (j := 1) rfl scGcd.nd rfl rfl (by decide) rfl rfl (pa_cons (pe_callB call_abs (by rfl) (B "abs" (by decide +kernel)) (by decide +kernel) (pa_cons (pv 0) pa_nil)) (pa_cons (pe_callB call_abs (by rfl) (B "abs" (by decide +kernel)) (by decide +kernel) (pa_cons (pv 1) pa_nil)) pa_nil)) rfl)
      (pss_cons (ps_while PassesOwn.never (pt_cmpR op_ne (pv 1) pe_int (nomark _))
        (pss_one (ps_par (i := 0) (j := 1) rfl scGcd.nd rfl rfl (by decide) rfl rfl (pa_cons (pv 1) (pa_cons (pe_op op_mod (pe_callTy call_int1 (by rfl) (B "int" (by decide +kernel)) (by decide +kernel) (pa_cons (pv 0) pa_nil)) (pv 1)) pa_nil)) rfl)))
      (pss_one (ps_ret (pv 0))))), ?_⟩
    refine ⟨_, rfl, a, rfl, _, rfl, b, rfl, _, _, rfl, ?_⟩
    refine while_by (fun σ H2 => ∃ x y : Int, σ = [some (.int x), some (.int y)] ∧ H2 = H ∧ 0 ≤ x ∧ 0 ≤ y ∧ gcdI x y = gcdI a b) (fun σ _ => match σ with | [_, some (.int y)] => y.toNat | _ => 0) ⟨_, _, rfl, rfl, by split <;> omega, by split <;> omega, gcdI_abs a b⟩ ?_ ?_
    · rintro σ H2 ⟨x, y, rfl, rfl, hx, hy, hg⟩
      refine ⟨_, rfl, rfl, _, rfl, ?_⟩
      refine ite2 (fun c => ?_) (fun c => ?_)
      · have c1 : y ≠ 0 := fun z => by
          rw [z] at c
          simp at c
        have hy2 : 0 < y := by omega
        have m0 := Int.emod_nonneg x c1
        have m1 := Int.emod_lt_of_pos x hy2
        refine ⟨_, rfl, _, rfl, Or.inl ⟨_, rfl, _, rfl, _, _, rfl, rfl, hy2, _, _, rfl, ?_⟩⟩
        refine ⟨⟨y, x % y, rfl, rfl, hy, m0, by rw [gcdI_step hx hy2]; exact hg⟩, ?_⟩
        show (x % y).toNat < y.toNat
        omega
      · have c1 : y = 0 := by
          by_cases z : y = 0
          · exact z
          · exact absurd (by simp [z]) c
        subst c1
        refine ⟨_, rfl, ?_⟩
        have e : x = gcdI a b := by rw [← hg, gcdI_zero hx]
        rw [e]
        exact k
    · intro σ H2 Q1 Q2 hq hc
      obtain ⟨v, e1, e2, kk, e3, e4⟩ := hc
      exact ⟨v, e1, e2, kk, e3, hq _ _ e4⟩
theorem rr_ord2 : ∀ r ∈ RR, ∀ i ∈ List.range r.length, 1 ≤ gcdI (ordL (r.take i)) (r.getD i 0) ∧ gcdI (ordL (r.take i)) (r.getD i 0) ≤ 60 ∧ 1 ≤ ordL (r.take i) ∧ ordL (r.take i) ≤ 60 ∧ ordL (r.take i) * (r.getD i 0 / gcdI (ordL (r.take i)) (r.getD i 0)) = ordL (r.take (i + 1)) := by decide +kernel
def spLOrder (K : PySem.W.Frag) : Sp := fun vs H Q _ => ∃ (v : V) (r : List Int), vs = [v] ∧ TupI K H v r ∧ r ∈ RR ∧ ∀ H', Same H H' → Q (.int (ordL r)) H'
theorem scLOrder : FnScope ["rings", "found", "length"] ["rings"] (defScope sLOrder) := ⟨rfl, rfl, rfl, by decide +kernel, rfl, by decide +kernel, by decide +kernel⟩
theorem ok_lOrder (F : FnP K "_law_order" sLOrder f fd) (F1 : FnP K "_law_gcd" sLGcd f1 fd1) (g1 : mg "_law_gcd" = some (.ref f1)) (G1 : FnOk P w K mg base CX0 1 f1 fd1 ["one", "other"] spGcd) : FnOk P w K mg base CX0 2 f fd ["rings"] (spLOrder K) := by
  have b1 : Binds K fd1 ["one", "other"] [] := F1.bindsN fun _ _ _ _ _ _ us hl => match us, hl with | [_, _], _ => rfl
  refine F.ok scLOrder (fun vs H Q E h => ?_) (fun cdv A outer s H vs Q E hr h => ?_)
  · obtain ⟨v, r, rfl, _⟩ := h
    rfl
  · obtain ⟨v, r, rfl, ⟨a, rfl, ha⟩, h14, k⟩ := h
    refine ⟨_, PSs.nox (pss_cons (ps_set (i := 1) scLOrder.nd rfl (Or.inl rfl) pe_int)
      (pss_cons (ps_for PassesOwn.never rfl (pi_tup (pv 0)) (pg_name (i := 2) scLOrder.nd rfl (Or.inl rfl)) (pss_one (ps_set (i := 1) scLOrder.nd rfl (Or.inl rfl) (pe_op op_mul (pv 1) (pe_op op_fdiv (pv 2) (pe_call G1 hr rfl g1 F1.kp b1 .nil pass0 (pa_cons (pv 1) (pa_cons (pv 2) pa_nil))))))))
      (pss_one (ps_ret (pv 1))))), ?_⟩
    refine ⟨_, rfl, a, rfl, ⟨_, ha⟩, for_tup (K := K) (a := a) (xs := r.map V.int) (fun i σ H2 => ∃ u, σ = [some (.ref a), some (.int (ordL (r.take i))), u] ∧ H2 = H) ⟨none, rfl, rfl⟩ (fun i σ H2 _ ⟨_, _, e⟩ => by rw [e]; exact ha) ?_ ?_⟩
    · rintro i y σ H2 hi ⟨u, rfl, rfl⟩
      obtain ⟨n, rfl, hn⟩ := getI hi
      have z := rr_ord2 r h14 i (List.mem_range.mpr (ltL hn))
      have e1 : r.getD i 0 = n := by rw [List.getD_eq_getElem?_getD, hn]; rfl
      rw [e1] at z
      refine ⟨_, rfl, _, rfl, _, rfl, _, rfl, _, _, rfl, _, _, rfl, rfl, ⟨by omega, by omega⟩, _, _, rfl, rfl, Or.inl ⟨by omega, by omega⟩, ?_⟩
      refine ⟨some (.int n), ?_, rfl⟩
      rw [← z.2.2.2.2]
      rfl
    · rintro σ H2 ⟨u, rfl, rfl⟩
      rw [List.length_map, List.take_length]
      exact ⟨_, rfl, k H2 (Same.refl _)⟩
end
end K08

/-! The law's places. -/
namespace K08
open PySem PySem.Spec PyProof.Rows L2
theorem rf_append (k6 k5 : List (Addr × List Int)) : rf (k6 ++ k5) = rf k6 ++ rf k5 := by simp [rf]
section
variable {P : Program} {w : World} {K : PySem.W.Frag} {mg : Str → Option Value} {base : Heap} {f f1 f2 f3 f4 f5 : Addr} {fd fd1 fd2 fd3 fd4 fd5 : FuncData}
def spLPl (K : PySem.W.Frag) : Sp := fun vs H Q _ => ∃ (v : V) (r : List Int), vs = [v] ∧ TupI K H v r ∧ r ∈ RR ∧ ∀ l H', Same H H' → PlL K H' l (placesL r) → Q (.ref l) H'
abbrev plN : List Str := ["rings", "found", "length", "longer", "place", "x"]
theorem scLPl : FnScope plN ["rings"] (defScope sLPlaces) := ⟨rfl, rfl, rfl, by decide +kernel, rfl, by decide +kernel, by decide +kernel⟩
theorem ok_lPl (F : FnP K "_law_places" sLPlaces f fd) (B : Bl mg) : FnOk P w K mg base CX0 1 f fd ["rings"] (spLPl K) := by
  refine F.ok scLPl (fun vs H Q E h => ?_) (fun cdv A outer s H vs Q E hr h => ?_)
  · obtain ⟨v, r, rfl, _⟩ := h
    rfl
  · obtain ⟨v, r, rfl, ⟨a, rfl, ha⟩, h14, k⟩ := h
    refine ⟨_, PSs.nox (pss_cons (ps_set (i := 1) scLPl.nd rfl (Or.inl rfl) (pe_lst (pa_cons (pe_tup pa_nil) pa_nil)))
      (pss_cons (ps_for PassesOwn.never rfl (pi_tup (pv 0)) (pg_name (i := 2) scLPl.nd rfl (Or.inl rfl))
        (pss_cons (ps_set (i := 3) scLPl.nd rfl (Or.inl rfl) (pe_lst pa_nil))
        (pss_cons (ps_for PassesOwn.never rfl (pi_list (pv 1)) (pg_name (i := 4) scLPl.nd rfl (Or.inr rfl))
          (pss_one (ps_expr (pe_bm PySem.F.plainAttrs_list PySem.F.slot_list_extend PySem.F.type_list_extend mt_extend (pv 3) (pa_cons
            (pe_lc (own := [("x", 5)]) (g := gName 5) (tt := tYes) (te := tOp (rCatA K) (tVar 4) (tTup (tCons (tVar 5) tNil))) rfl scLPl.nd (pi_range1 rfl (B "range" (by decide +kernel)) (pa_cons (pv 2) pa_nil))
              (blkOk_by (own := [("x", 5)]) (N := plN) (sc := defScope sLPlaces) (by decide +kernel)) (fun _ _ _ _ _ => pg_name (i := 5) scLPl.nd rfl (Or.inl rfl)) (fun _ _ _ _ _ => pts_nil) (fun _ _ _ _ _ => pe_op op_catA (pv 4) (pe_tup (pa_cons (pv 5) pa_nil)))) pa_nil)))))
        (pss_one (ps_set (i := 1) scLPl.nd rfl (Or.inl rfl) (pv 3))))))
      (pss_one (ps_ret (pv 1))))), ?_⟩
    have hn := rr_len r h14
    refine ⟨by decide, fun t ht => ⟨by show 1 ≤ sizeLine; decide, fun L hL => ?_⟩⟩
    have s3 : Same H (upd (upd H t (.tup [])) L (.lst [.ref t])) := same_new (same_upd ht) hL
    refine ⟨_, rfl, a, rfl, ⟨_, s3.tup ha⟩, for_tup (K := K) (a := a) (xs := r.map V.int) (fun i σ H3 => ∃ (l : Addr) (u v z : Option V), σ = [some (.ref a), some (.ref l), u, v, z, none] ∧ Same H H3 ∧ PlL K H3 l (placesL (r.take i)))
      ⟨L, none, none, none, rfl, s3, [(t, [])], upd_same, rfl, fun p hp => by rw [List.mem_singleton.mp hp]; exact (same_upd hL).tup (SqT.of upd_same)⟩ (fun i σ H3 _ ⟨_, _, _, _, _, z, _⟩ => z.tup ha) ?_ ?_⟩
    · rintro i y σ H3 hi ⟨l, u1, v1, z1, rfl, s4, ks, hk, em, tk⟩
      obtain ⟨c, rfl, hc⟩ := getI hi
      have cb := rr_pos r h14 c (List.mem_of_getElem? hc)
      have hlt := ltL hc
      have l1 := rr_pl r h14 i (List.mem_range.mpr (by omega))
      refine ⟨by decide, fun G hG => ?_⟩
      have nG : H G = none := s4.free hG
      have s5 : Same H3 (upd H3 G (.lst [])) := same_upd hG
      refine ⟨_, rfl, l, rfl, ⟨_, SqL.of (s5 _ _ hk)⟩, for_list (K := K) (a := l) (xs := rf ks) (fun m σ H4 => ∃ z, σ = [some (.ref a), some (.ref l), some (.int c), some (.ref G), z, none] ∧ Same H3 H4 ∧ PlL K H4 G (plStep ((placesL (r.take i)).take m) c)) ⟨z1, rfl, s5, [], upd_same, rfl, tl_nil⟩ (fun m σ H4 _ ⟨_, _, z, _⟩ => SqL.of (z _ _ hk)) ?_ ?_⟩
      · rintro m y σ H4 hm ⟨z, rfl, s6, k6, h6, e6, t6⟩
        obtain ⟨q, rfl, hq⟩ := getR hm
        have hq2 := map_get em hq
        have tq := tk q (List.mem_of_getElem? hq)
        have zl := rr_plen r h14 i (List.mem_range.mpr (by omega)) _ (List.mem_of_getElem? hq2)
        have ml : m < 60 := Nat.lt_of_lt_of_le (ltL hq2) l1
        refine ⟨_, rfl, Or.inl ⟨rfl, _, SqL.of h6⟩, ?_⟩
        refine ⟨_, rfl, c, rfl, by omega, by omega, fun D hD => ?_⟩
        refine lc_range (lo := 0) (n := c.toNat) (fun j H5 => Same H4 H5 ∧ ∃ k5, H5 D = some (.lst (rf k5)) ∧ k5.map (·.2) = (rgL 0 j).map (fun x => q.2 ++ [x]) ∧ TL K H5 k5) ⟨same_upd hD, [], upd_same, rfl, tl_nil⟩ ?_ ?_
        · rintro j H5 hj ⟨s7, k5, h5, e5, t5⟩
          have l5 : k5.length = j := by
            have z := congrArg List.length e5
            rw [List.length_map, List.length_map, rgL_len] at z
            exact z
          refine ⟨rfl, _, rfl, _, rfl, by show 1 ≤ sizeLine; decide, fun p hp => ?_⟩
          have s8 : Same H5 (upd H5 p (.tup [.int (0 + (j : Int))])) := same_upd hp
          have tq5 : SqT K (upd H5 p (.tup [.int (0 + (j : Int))])) q.1 (q.2.map V.int) := ((s6.trans s7).trans s8).tup tq
          have h5p : upd H5 p (.tup [.int (0 + (j : Int))]) D = some (.lst (rf k5)) := s8 _ _ h5
          refine ⟨q.1, p, _, _, rfl, rfl, tq5, SqT.of upd_same, sl_1000 (by simp; omega), fun en => ?_, fun _ e => absurd e (by simp), fun en _ p2 hp2 => ?_⟩
          · have e0 : q.2 = [] := by simpa using en
            refine ⟨_, h5p, sl_lt (by rw [List.length_map]; omega), same_at (s7.trans s8) hD, k5 ++ [(p, q.2 ++ [0 + (j : Int)])], ?_, ?_, tl_at (tl_snoc (s8.tl t5) (by rw [e0]; exact SqT.of upd_same)) h5p⟩
            · rw [upd_same, rf_snoc]
            · rw [List.map_append, e5, rgL_succ, List.map_append]
              rfl
          · have s9 : Same (upd H5 p (.tup [.int (0 + (j : Int))])) (upd (upd H5 p (.tup [.int (0 + (j : Int))])) p2 (.tup (q.2.map V.int ++ [.int (0 + (j : Int))]))) := same_upd hp2
            have h52 := s9 _ _ h5p
            refine ⟨_, h52, sl_lt (by rw [List.length_map]; omega), same_at ((s7.trans s8).trans s9) hD, k5 ++ [(p2, q.2 ++ [0 + (j : Int)])], ?_, ?_, tl_at (tl_snoc ((s8.trans s9).tl t5) (SqT.of (by rw [upd_same, List.map_append]; rfl))) h52⟩
            · rw [upd_same, rf_snoc]
            · rw [List.map_append, e5, rgL_succ, List.map_append]
              rfl
        · rintro H5 ⟨s7, k5, h5, e5, t5⟩
          have l5 : k5.length = c.toNat := by
            have z := congrArg List.length e5
            rw [List.length_map, List.length_map, rgL_len] at z
            exact z
          have l6 : k6.length ≤ 3600 := by
            have z := congrArg List.length e6
            rw [List.length_map, plStep_len] at z
            have z2 : ((placesL (r.take i)).take m).length ≤ 60 := Nat.le_trans (List.length_take_le' _ _) l1
            have z3 : ((placesL (r.take i)).take m).length * c.toNat ≤ 60 * 60 := Nat.mul_le_mul z2 (by omega)
            omega
          have hGne : H3 G = none := hG
          refine ⟨G, D, _, _, rfl, rfl, s7 _ _ h6, h5, sl_1000 (by rw [List.length_map, List.length_map]; omega), ?_⟩
          refine ⟨_, rfl, same_at (s6.trans s7) hG, k6 ++ k5, ?_, ?_, tl_at (fun p hp => ?_) (s7 _ _ h6)⟩
          · rw [upd_same, rf_append]
          · rw [List.map_append, e6, e5, plStep_take hq2]
          · rcases List.mem_append.mp hp with z | z
            · exact (s7.tl t6) p z
            · exact t5 p z
      · rintro σ H4 ⟨z, rfl, s6, P6⟩
        have e6 : (rf ks).length = (placesL (r.take i)).length := by rw [← em, List.length_map, List.length_map]
        rw [e6, List.take_length] at P6
        refine ⟨_, rfl, G, _, _, _, rfl, s4.trans s6, ?_⟩
        rw [pl_take hc]
        exact P6
    · rintro σ H3 ⟨l, u1, v1, z1, rfl, s4, P4⟩
      rw [List.length_map, List.take_length] at P4
      exact ⟨_, rfl, k l H3 s4 P4⟩
end
end K08

/-! The law's rings. -/
namespace K08
open PySem PySem.Spec PyProof.Rows L2
/-! ### decks and floors -/
theorem deck_ref {d l : Addr} {H : Hp} (D : DeckAt d l H) : (∃ m k, H d = some (.dK (deckKV l m k))) ∧ ∃ ns : List Int, H l = some (.lst (ns.map V.int)) := by
  obtain ⟨ns, m, k, h1, h2, _⟩ := D
  exact ⟨⟨m, k, h1⟩, ns, h2⟩
theorem _root_.L2.Same.deck {d l : Addr} {H H' : Hp} (s : Same H H') (D : DeckAt d l H) : DeckAt d l H' := by
  obtain ⟨ns, m, k, h1, h2, h3⟩ := D
  exact ⟨ns, m, k, s _ _ h1, s _ _ h2, h3⟩
section
variable {K : PySem.W.Frag} {d l : Addr} {H H' : Hp}
theorem Keeps.sqt (k : Keeps d l H H') (D : DeckAt d l H) {a : Addr} {xs : List V} (h : SqT K H a xs) : SqT K H' a xs := by
  obtain ⟨⟨m, j, h1⟩, ns, h2⟩ := deck_ref D
  rcases h with h | h
  · rcases h with h | ⟨o, h⟩
    · exact .inl (.inl (k _ _ h (ne_of h h1 (by intro z; cases z)) (ne_of h h2 (by intro z; cases z))))
    · exact .inl (.inr ⟨o, k _ _ h (ne_of h h1 (by intro z; cases z)) (ne_of h h2 (by intro z; cases z))⟩)
  · exact .inr h
theorem Keeps.tupI (k : Keeps d l H H') (D : DeckAt d l H) {v : V} {ns : List Int} (h : TupI K H v ns) : TupI K H' v ns := by
  obtain ⟨t, rfl, q⟩ := h
  exact ⟨t, rfl, k.sqt D q⟩
end
def tInts : List Int → TA
  | [] => tNil
  | n :: ns => tCons (tC (.int n)) (tInts ns)
def tTups : List (List Int) → TA
  | [] => tNil
  | r :: rs => tCons (tTup (tInts r)) (tTups rs)
theorem ints_ok : ∀ {ns : List Int} {σ : L2.St} {H : Hp} {Q : List V → Hp → Prop}, Q (ns.map V.int) H → tInts ns σ H Q
  | [], _, _, _, q => q
  | n :: ns, σ, H, Q, q => ints_ok (ns := ns) (Q := fun vs H1 => Q (.int n :: vs) H1) q
theorem tups_ok {K : PySem.W.Frag} : ∀ {rs : List (List Int)} {σ : L2.St} {H : Hp} {Q : List V → Hp → Prop}, (∀ r ∈ rs, r.length ≤ 1000) → (∀ ks H', Same H H' → TL K H' ks → ks.map (·.2) = rs → Q (rf ks) H') → tTups rs σ H Q
  | [], σ, H, Q, _, q => q [] H (Same.refl H) tl_nil rfl
  | r :: rs, σ, H, Q, h, q => by
    show tInts r σ H fun xs H1 => xs.length ≤ sizeLine ∧ ∀ p, H1 p = none → tTups rs σ (upd H1 p (.tup xs)) fun vs H2 => Q (.ref p :: vs) H2
    refine ints_ok ⟨sl_1000 (by rw [List.length_map]; have := h r List.mem_cons_self; omega), fun p hp => ?_⟩
    have s1 : Same H (upd H p (.tup (r.map V.int))) := same_upd hp
    refine tups_ok (K := K) (fun x hx => h x (List.mem_cons_of_mem _ hx)) fun ks H' s2 ht e => ?_
    refine q ((p, r) :: ks) H' (s1.trans s2) (fun y hy => ?_) (by rw [List.map_cons, e])
    rcases List.mem_cons.mp hy with rfl | hy
    · exact SqT.of (s2 _ _ upd_same)
    · exact ht y hy
def rg1 : List (List Int) := [[2], [3], [4], [5], [6], [2, 2], [2, 3], [7], [8], [2, 4], [3, 3], [2, 2, 2], [9], [10], [12], [2, 6], [3, 4]]
def rg2 : List (List Int) := [[4, 4], [16], [2, 2, 3], [2, 8], [2, 2, 2, 2], [15], [3, 5], [13], [5, 5], [60], [6, 10], [4, 3, 5], [2, 30], [59]]
theorem tups1 : (tCons (tTup (tCons (tC (.int 2)) tNil)) (tCons (tTup (tCons (tC (.int 3)) tNil)) (tCons (tTup (tCons (tC (.int 4)) tNil)) (tCons (tTup (tCons (tC (.int 5)) tNil)) (tCons (tTup (tCons (tC (.int 6)) tNil)) (tCons (tTup (tCons (tC (.int 2)) (tCons (tC (.int 2)) tNil))) (tCons (tTup (tCons (tC (.int 2)) (tCons (tC (.int 3)) tNil))) (tCons (tTup (tCons (tC (.int 7)) tNil)) (tCons (tTup (tCons (tC (.int 8)) tNil)) (tCons (tTup (tCons (tC (.int 2)) (tCons (tC (.int 4)) tNil))) (tCons (tTup (tCons (tC (.int 3)) (tCons (tC (.int 3)) tNil))) (tCons (tTup (tCons (tC (.int 2)) (tCons (tC (.int 2)) (tCons (tC (.int 2)) tNil)))) (tCons (tTup (tCons (tC (.int 9)) tNil)) (tCons (tTup (tCons (tC (.int 10)) tNil)) (tCons (tTup (tCons (tC (.int 12)) tNil)) (tCons (tTup (tCons (tC (.int 2)) (tCons (tC (.int 6)) tNil))) (tCons (tTup (tCons (tC (.int 3)) (tCons (tC (.int 4)) tNil))) tNil))))))))))))))))) = tTups rg1 := rfl
theorem tups2 : (tCons (tTup (tCons (tC (.int 4)) (tCons (tC (.int 4)) tNil))) (tCons (tTup (tCons (tC (.int 16)) tNil)) (tCons (tTup (tCons (tC (.int 2)) (tCons (tC (.int 2)) (tCons (tC (.int 3)) tNil)))) (tCons (tTup (tCons (tC (.int 2)) (tCons (tC (.int 8)) tNil))) (tCons (tTup (tCons (tC (.int 2)) (tCons (tC (.int 2)) (tCons (tC (.int 2)) (tCons (tC (.int 2)) tNil))))) (tCons (tTup (tCons (tC (.int 15)) tNil)) (tCons (tTup (tCons (tC (.int 3)) (tCons (tC (.int 5)) tNil))) (tCons (tTup (tCons (tC (.int 13)) tNil)) (tCons (tTup (tCons (tC (.int 5)) (tCons (tC (.int 5)) tNil))) (tCons (tTup (tCons (tC (.int 60)) tNil)) (tCons (tTup (tCons (tC (.int 6)) (tCons (tC (.int 10)) tNil))) (tCons (tTup (tCons (tC (.int 4)) (tCons (tC (.int 3)) (tCons (tC (.int 5)) tNil)))) (tCons (tTup (tCons (tC (.int 2)) (tCons (tC (.int 30)) tNil))) (tCons (tTup (tCons (tC (.int 59)) tNil)) tNil)))))))))))))) = tTups rg2 := rfl
theorem lst_tups {K : PySem.W.Frag} {t : TA} {rs : List (List Int)} {σ : L2.St} {H : Hp} {Q : VK} (e : t = tTups rs) (h : ∀ r ∈ rs, r.length ≤ 1000) (hl : rs.length ≤ 1000) (q : ∀ p ks H', Same H H' → TL K H' ks → ks.map (·.2) = rs → H p = none → H' p = some (.lst (rf ks)) → Q (.ref p) H') : tLst t σ H Q := by
  subst e
  refine tups_ok (K := K) (rs := rs) (σ := σ) (H := H) (Q := fun xs H1 => xs.length ≤ sizeLine ∧ ∀ p, H1 p = none → Q (.ref p) (upd H1 p (.lst xs))) h fun ks H1 s1 tl e => ⟨?_, fun p hp => ?_⟩
  · have := congrArg List.length e
    rw [List.length_map] at this
    rw [List.length_map, this]
    exact sl_1000 (by omega)
  · exact q p ks _ (same_new s1 hp) ((same_upd hp).tl tl) e (s1.free hp) upd_same
theorem rg_ok : ∀ r ∈ rg1 ++ rg2, sizeL r ≤ 16 → r ∈ RR := by decide +kernel
theorem rg_two : ∀ m ∈ [6, 8, 9, 12, 16], ∃ r ∈ rg1 ++ rg2, sizeL r ≤ (m : Int) := fun m _ => ⟨[2], by decide, by
  have : ∀ m ∈ [6, 8, 9, 12, 16], sizeL [2] ≤ (m : Int) := by decide
  exact this m (by assumption)⟩
theorem rg_small : ∀ r ∈ rg1 ++ rg2, r.length ≤ 4 ∧ ∀ i ∈ List.range (r.length + 1), 1 ≤ sizeL (r.take i) ∧ sizeL (r.take i) ≤ 60 := by decide +kernel
end K08

namespace K08
open PySem PySem.Spec PyProof.Rows L2
theorem seq_asg {te : TE} {g : TG} {t : TS} {D : Ends} {σ : L2.St} {H : Hp} (h : te σ H fun v H1 => g v σ H1 fun σ2 H2 => t D σ2 H2) : tSeq (tAsg te g) t D σ H := h
section
variable {P : Program} {w : World} {K : PySem.W.Frag} {mg : Str → Option Value} {base : Heap} {f f1 f2 f3 f4 f5 : Addr} {fd fd1 fd2 fd3 fd4 fd5 : FuncData}
def spLRings (K : PySem.W.Frag) : Sp := fun vs H Q _ => ∃ (d l : Addr) (m : Int), vs = [.ref d, .int m] ∧ DeckAt d l H ∧ m ∈ ([6, 8, 9, 12, 16] : List Int) ∧ ∀ v r H', DeckAt d l H' → Keeps d l H H' → TupI K H' v r → r ∈ RR → Q v H'
abbrev rgN : List Str := ["deck", "most", "some", "fit", "rings", "size", "length"]
theorem scLRings : FnScope rgN ["deck", "most"] (defScope sLRings) := ⟨rfl, rfl, rfl, by decide +kernel, rfl, by decide +kernel, by decide +kernel⟩
theorem ok_lRings (F : FnP K "_law_rings" sLRings f fd) (F1 : FnP K "_law_pick" sPick f1 fd1) (g1 : mg "_law_pick" = some (.ref f1)) (G1 : FnOk P w K mg base CX0 2 f1 fd1 ["deck", "some"] (spPick K)) : FnOk P w K mg base CX0 3 f fd ["deck", "most"] (spLRings K) := by
  have b1 : Binds K fd1 ["deck", "some"] [] := F1.bindsN fun _ _ _ _ _ _ us hl => match us, hl with | [_, _], _ => rfl
  refine F.ok scLRings (fun vs H Q E h => ?_) (fun cdv A outer s H vs Q E hr h => ?_)
  · obtain ⟨d, l, m, rfl, _⟩ := h
    rfl
  · obtain ⟨d, l, m, rfl, D, hm, k⟩ := h
    refine ⟨_, PSs.nox (pss_cons (ps_set (i := 2) scLRings.nd rfl (Or.inl rfl) (pe_lst (pa_cons (pe_tup (pa_cons pe_int pa_nil)) (pa_cons (pe_tup (pa_cons pe_int pa_nil)) (pa_cons (pe_tup (pa_cons pe_int pa_nil)) (pa_cons (pe_tup (pa_cons pe_int pa_nil)) (pa_cons (pe_tup (pa_cons pe_int pa_nil)) (pa_cons (pe_tup (pa_cons pe_int (pa_cons pe_int pa_nil))) (pa_cons (pe_tup (pa_cons pe_int (pa_cons pe_int pa_nil))) (pa_cons (pe_tup (pa_cons pe_int pa_nil)) (pa_cons (pe_tup (pa_cons pe_int pa_nil)) (pa_cons (pe_tup (pa_cons pe_int (pa_cons pe_int pa_nil))) (pa_cons (pe_tup (pa_cons pe_int (pa_cons pe_int pa_nil))) (pa_cons (pe_tup (pa_cons pe_int (pa_cons pe_int (pa_cons pe_int pa_nil)))) (pa_cons (pe_tup (pa_cons pe_int pa_nil)) (pa_cons (pe_tup (pa_cons pe_int pa_nil)) (pa_cons (pe_tup (pa_cons pe_int pa_nil)) (pa_cons (pe_tup (pa_cons pe_int (pa_cons pe_int pa_nil))) (pa_cons (pe_tup (pa_cons pe_int (pa_cons pe_int pa_nil))) pa_nil)))))))))))))))))))
      (pss_cons (ps_set (i := 2) scLRings.nd rfl (Or.inl rfl) (pe_op op_cat (pv 2) (pe_lst (pa_cons (pe_tup (pa_cons pe_int (pa_cons pe_int pa_nil))) (pa_cons (pe_tup (pa_cons pe_int pa_nil)) (pa_cons (pe_tup (pa_cons pe_int (pa_cons pe_int (pa_cons pe_int pa_nil)))) (pa_cons (pe_tup (pa_cons pe_int (pa_cons pe_int pa_nil))) (pa_cons (pe_tup (pa_cons pe_int (pa_cons pe_int (pa_cons pe_int (pa_cons pe_int pa_nil))))) (pa_cons (pe_tup (pa_cons pe_int pa_nil)) (pa_cons (pe_tup (pa_cons pe_int (pa_cons pe_int pa_nil))) (pa_cons (pe_tup (pa_cons pe_int pa_nil)) (pa_cons (pe_tup (pa_cons pe_int (pa_cons pe_int pa_nil))) (pa_cons (pe_tup (pa_cons pe_int pa_nil)) (pa_cons (pe_tup (pa_cons pe_int (pa_cons pe_int pa_nil))) (pa_cons (pe_tup (pa_cons pe_int (pa_cons pe_int (pa_cons pe_int pa_nil)))) (pa_cons (pe_tup (pa_cons pe_int (pa_cons pe_int pa_nil))) (pa_cons (pe_tup (pa_cons pe_int pa_nil)) pa_nil)))))))))))))))))
      (pss_cons (ps_set (i := 3) scLRings.nd rfl (Or.inl rfl) (pe_lst pa_nil))
      (pss_cons (ps_for PassesOwn.never rfl (pi_list (pv 2)) (pg_name (i := 4) scLRings.nd rfl (Or.inl rfl))
        (pss_cons (ps_set (i := 5) scLRings.nd rfl (Or.inl rfl) pe_int)
        (pss_cons (ps_for PassesOwn.never rfl (pi_tup (pv 4)) (pg_name (i := 6) scLRings.nd rfl (Or.inl rfl)) (pss_one (ps_set (i := 5) scLRings.nd rfl (Or.inl rfl) (pe_op op_mul (pv 5) (pv 6)))))
        (pss_one (ps_if (pt_cmpR op_le (pv 5) (pv 1) (nomark _)) (pss_one (ps_expr (pe_bm PySem.F.plainAttrs_list PySem.F.slot_list_append PySem.F.type_list_append mt_append (pv 3) (pa_cons (pv 4) pa_nil)))) pss_nil)))))
      (pss_one (ps_ret (pe_call G1 hr rfl g1 F1.kp b1 .nil pass0 (pa_cons (pv 0) (pa_cons (pv 3) pa_nil))))))))), ?_⟩
    have fst : ∀ (Q1 : VK), (∀ p ks H', Same H H' → TL K H' ks → ks.map (·.2) = rg1 → H p = none → H' p = some (.lst (rf ks)) → Q1 (.ref p) H') → tLst (tTups rg1) (start rgN [V.ref d, V.int m]) H Q1 := fun Q1 q => lst_tups (K := K) rfl (by decide) (by decide) q
    rw [← tups1] at fst
    refine seq_asg ?_
    refine fst _ fun p1 k1 H1 s1 t1 e1 n1 h1 => ?_
    have snd : ∀ (σ : L2.St) (Q1 : VK), (∀ p ks H', Same H1 H' → TL K H' ks → ks.map (·.2) = rg2 → H1 p = none → H' p = some (.lst (rf ks)) → Q1 (.ref p) H') → tLst (tTups rg2) σ H1 Q1 := fun σ Q1 q => lst_tups (K := K) rfl (by decide) (by decide) q
    rw [← tups2] at snd
    refine seq_asg ?_
    refine ⟨_, rfl, ?_⟩
    refine snd _ _ fun p2 k2 H2 s2 t2 e2 n2 h2 => ?_
    have l1 : k1.length = 17 := by
      have := congrArg List.length e1
      rw [List.length_map] at this
      exact this
    have l2 : k2.length = 14 := by
      have := congrArg List.length e2
      rw [List.length_map] at this
      exact this
    refine ⟨p1, p2, _, _, rfl, rfl, s2 _ _ h1, h2, sl_1000 (by rw [List.length_map, List.length_map]; omega), fun p3 hp3 => ?_⟩
    have s3 : Same H2 (upd H2 p3 (.lst (rf k1 ++ rf k2))) := same_upd hp3
    generalize hH3 : upd H2 p3 (.lst (rf k1 ++ rf k2)) = H3 at s3
    have h3 : H3 p3 = some (.lst (rf (k1 ++ k2))) := by rw [← hH3, upd_same, rf_append]
    have tk : TL K H3 (k1 ++ k2) := fun p hp => by
      rcases List.mem_append.mp hp with z | z
      · exact (s2.trans s3).tl t1 p z
      · exact s3.tl t2 p z
    have em : (k1 ++ k2).map (·.2) = rg1 ++ rg2 := by rw [List.map_append, e1, e2]
    have sA := (s1.trans s2).trans s3
    have mb : 6 ≤ m ∧ m ≤ 16 := by
      have : ∀ x ∈ ([6, 8, 9, 12, 16] : List Int), 6 ≤ x ∧ x ≤ 16 := by decide
      exact this m hm
    refine seq_asg ?_
    refine ⟨by decide, fun L hL => ?_⟩
    have sL : Same H3 (upd H3 L (.lst [])) := same_upd hL
    have nL : H L = none := sA.free hL
    refine ⟨_, rfl, p3, rfl, ⟨_, SqL.of (sL _ _ h3)⟩, for_list (K := K) (a := p3) (xs := rf (k1 ++ k2)) (fun i σ H4 => ∃ u4 u5 u6 kf, σ = [some (.ref d), some (.int m), some (.ref p3), some (.ref L), u4, u5, u6] ∧ Same H3 H4 ∧ H4 L = some (.lst (rf kf)) ∧ TL K H4 kf ∧ (∀ q ∈ kf, q.2 ∈ rg1 ++ rg2 ∧ sizeL q.2 ≤ m) ∧ kf.length ≤ i ∧ (1 ≤ i → 1 ≤ kf.length))
      ⟨none, none, none, [], rfl, sL, upd_same, tl_nil, fun q hq => absurd hq (by simp), Nat.le_refl _, fun z => absurd z (by decide)⟩ (fun i σ H4 _ ⟨_, _, _, _, _, s4, _⟩ => SqL.of (s4 _ _ h3)) ?_ ?_⟩
    · rintro i y σ H4 hi ⟨u4, u5, u6, kf, rfl, s4, h4, tf, mf, lf, of⟩
      obtain ⟨q, rfl, hq⟩ := getR hi
      have hqm := List.mem_of_getElem? hq
      have hq2 := map_get em hq
      have hqr : q.2 ∈ rg1 ++ rg2 := List.mem_of_getElem? hq2
      have qs := rg_small q.2 hqr
      have tq := s4.tup (tk q hqm)
      refine ⟨_, rfl, q.1, rfl, ⟨_, tq⟩, for_tup (K := K) (a := q.1) (xs := q.2.map V.int) (fun j σ H5 => ∃ v6, σ = [some (.ref d), some (.int m), some (.ref p3), some (.ref L), some (.ref q.1), some (.int (sizeL (q.2.take j))), v6] ∧ H5 = H4) ⟨u6, rfl, rfl⟩ (fun j σ H5 _ ⟨_, _, e⟩ => by rw [e]; exact tq) ?_ ?_⟩
      · rintro j y2 σ H5 hj ⟨v6, rfl, rfl⟩
        obtain ⟨n, rfl, hn⟩ := getI hj
        have z := qs.2 j (List.mem_range.mpr (by have := ltL hn; omega))
        refine ⟨_, rfl, _, rfl, _, _, rfl, rfl, Or.inl ⟨by omega, by omega⟩, some (.int n), ?_, rfl⟩
        rw [size_take hn]
        rfl
      · rintro σ H5 ⟨v6, rfl, rfl⟩
        rw [List.length_map, List.take_length]
        refine ⟨_, rfl, _, rfl, _, _, rfl, rfl, _, rfl, ?_⟩
        refine ite2 (fun c => ?_) (fun c => ?_)
        · have c1 : sizeL q.2 ≤ m := of_decide_eq_true c
          have h31 : (k1 ++ k2).length = 31 := by rw [List.length_append, l1, l2]
          have il := ltL hq
          refine ⟨_, rfl, Or.inl ⟨rfl, _, SqL.of h4⟩, _, rfl, L, _, _, rfl, rfl, h4, sl_lt (by rw [List.length_map]; omega), ?_⟩
          refine ⟨_, _, _, kf ++ [(q.1, q.2)], rfl, same_at s4 hL, ?_, tl_at (tl_snoc tf tq) h4, fun x hx => ?_, by rw [List.length_append]; show _ + 1 ≤ _; omega, fun _ => by rw [List.length_append]; show 1 ≤ _ + 1; omega⟩
          · rw [upd_same, rf_snoc]
          · rcases List.mem_append.mp hx with z | z
            · exact mf x z
            · rw [List.mem_singleton.mp z]
              exact ⟨hqr, c1⟩
        · refine ⟨_, _, _, kf, rfl, s4, h4, tf, mf, by omega, fun _ => ?_⟩
          by_cases hi0 : i = 0
          · subst hi0
            have e0 : q.2 = [2] := by
              have : (rg1 ++ rg2)[0]? = some [2] := rfl
              rw [hq2] at this
              exact Option.some.inj this
            have c1 : ¬ sizeL q.2 ≤ m := fun z => c (decide_eq_true z)
            rw [e0] at c1
            have : sizeL [2] = 2 := rfl
            omega
          · exact of (by omega)
    · rintro σ H4 ⟨u4, u5, u6, kf, rfl, s4, h4, tf, mf, lf, of⟩
      have hxl : (rf (k1 ++ k2)).length = 31 := by rw [List.length_map, List.length_append, l1, l2]
      rw [hxl] at lf of
      have sF := sA.trans s4
      have D4 := sF.deck D
      obtain ⟨_, ns, hd2⟩ := deck_ref D
      refine ⟨_, rfl, _, rfl, d, l, L, rf kf, rfl, D4, h4, (ne_of_none hd2 nL).symm, by rw [List.length_map]; exact of (by decide), by rw [List.length_map]; omega, fun v H5 hv D5 k5 => ?_⟩
      obtain ⟨q, hq, rfl⟩ := List.mem_map.mp hv
      obtain ⟨q1, q2⟩ := mf q hq
      exact k _ q.2 H5 D5 (fun b o e h1 h2 => k5 b o (sF b o e) h1 h2) ⟨q.1, rfl, k5.sqt D4 (tf q hq)⟩ (rg_ok q.2 q1 (by omega))
end
end K08

/-! The law's is_zero. -/
namespace K08
open PySem PySem.Spec PyProof.Rows L2
def nzL (ns : List Int) : List Int := ns.filter fun x => !decide (x = 0)
theorem nz_some (ns : List Int) : decide (nzL ns = []) = !someN ns := by
  unfold nzL someN
  rw [Bool.eq_iff_iff]
  simp [List.filter_eq_nil_iff]
section
variable {P : Program} {w : World} {K : PySem.W.Frag} {mg : Str → Option Value} {base : Heap} {f f1 f2 f3 f4 f5 : Addr} {fd fd1 fd2 fd3 fd4 fd5 : FuncData}
def spLZ (K : PySem.W.Frag) : Sp := fun vs H Q _ => ∃ (v : V) (n : Num), vs = [v] ∧ NumAt K H v n ∧ n.1.length ≤ 1000 ∧ ∀ H', Same H H' → Q (.bl (!someN n.1)) H'
theorem scLZ : FnScope ["number", "x"] ["number"] (defScope sLIsZero) := ⟨rfl, rfl, rfl, by decide +kernel, rfl, by decide +kernel, by decide +kernel⟩
theorem ok_lZ (F : FnP K "_law_is_zero" sLIsZero f fd) : FnOk P w K mg base CX0 1 f fd ["number"] (spLZ K) := by
  refine F.ok scLZ (fun vs H Q E h => ?_) (fun cdv A outer s H vs Q E hr h => ?_)
  · obtain ⟨v, n, rfl, _⟩ := h
    rfl
  · obtain ⟨v, n, rfl, hv, hl, k⟩ := h
    refine ⟨_, PSs.nox (pss_one (ps_ret (pe_cmpR (op_eqD (hu65 hr))
      (pe_lc (own := [("x", 1)]) (g := gName 1) (tt := tTest (tOp rNe (tVar 1) (tC (.int 0)))) (te := tVar 1) rfl scLZ.nd (pi_tup (pe_ix ix_tup (pv 0) pe_int (fun _ _ => rfl))) (blkOk_by (own := [("x", 1)]) (N := ["number", "x"]) (sc := defScope sLIsZero) (by decide +kernel))
        (fun _ _ _ _ _ => pg_name (i := 1) scLZ.nd rfl (Or.inl rfl)) (fun _ _ _ _ _ => pts_one (pt_cmpR op_ne (pv 1) pe_int (nomark _))) (fun _ _ _ _ _ => pv 1)) (pe_lst pa_nil) (nomark _)))), ?_⟩
    obtain ⟨p, t, rfl, hp, ht⟩ := hv
    refine ⟨_, rfl, p, _, ((0 : Nat) : Int), _, rfl, rfl, hp, atI_nat (j := 0) rfl, t, rfl, ⟨_, ht⟩, fun D hD => ?_⟩
    refine lc_tup (K := K) (a := t) (xs := n.1.map V.int) (fun i H2 => Same H H2 ∧ H2 D = some (.lst ((nzL (n.1.take i)).map V.int))) ⟨same_upd hD, by rw [upd_same]; rfl⟩ (fun i H2 _ ⟨s2, _⟩ => s2.tup ht) ?_ ?_
    · rintro i y H2 hi ⟨s2, h2⟩
      obtain ⟨x, rfl, hx⟩ := getI hi
      have il := ltL hx
      refine ⟨rfl, _, rfl, rfl, _, rfl, ?_⟩
      refine ite2 (fun c => ?_) (fun c => ?_)
      · have c1 : ¬ x = 0 := by simpa using c
        refine ⟨_, rfl, _, h2, sl_lt ?_, same_at s2 hD, ?_⟩
        · rw [List.length_map]
          unfold nzL
          exact Nat.le_trans (List.length_filter_le _ _) (by rw [List.length_take]; omega)
        · rw [upd_same, takeS hx]
          unfold nzL
          rw [List.filter_append, List.map_append]
          simp [c1]
      · have c1 : x = 0 := by simpa using c
        refine ⟨s2, ?_⟩
        rw [h2, takeS hx]
        unfold nzL
        rw [List.filter_append]
        simp [c1]
    · rintro H2 ⟨s2, h2⟩
      rw [List.length_map, List.take_length] at h2
      refine ⟨by decide, fun z hz => ?_⟩
      have sz : Same H2 (upd H2 z (.lst [])) := same_upd hz
      refine ⟨.list ((nzL n.1).map PyData.int), .list [], .lst (SqL.of (sz _ _ h2)) (dp_ints _), .lst (SqL.of upd_same) .nil, shaped_ints _, shaped_ints [], ?_⟩
      rw [eqv_nil, nz_some]
      exact k _ (s2.trans sz)
end
end K08

/-! The law's ring polynomials. -/
namespace K08
open PySem PySem.Spec PyProof.Rows L2
abbrev Ent := Addr × (Int × List Int)
abbrev entK (ts : List Ent) : List (Key × V) := ts.map fun x => ((Sum.inl x.2.1 : Key), V.ref x.1)
def EntAt (H : Hp) (ts : List Ent) : Prop := ∀ x ∈ ts, H x.1 = some (.lst (x.2.2.map V.int))
theorem ent_val : ∀ {ts : List Ent} {x : Ent}, (ts.map (·.2.1)).Nodup → x ∈ ts → valV (entK ts) (.inl x.2.1) = some (.ref x.1)
  | [], x, _, h => absurd h (by simp)
  | y :: ts, x, hn, h => by
    rw [List.map_cons, List.nodup_cons] at hn
    by_cases e : y.2.1 = x.2.1
    · rcases List.mem_cons.mp h with rfl | h
      · exact L2.valV_pos rfl
      · exact absurd (List.mem_map.mpr ⟨x, h, e.symm⟩) hn.1
    · rcases List.mem_cons.mp h with rfl | h
      · exact absurd rfl e
      · show valV ((Sum.inl y.2.1, V.ref y.1) :: entK ts) (.inl x.2.1) = _
        rw [L2.valV_neg (fun z => e (Sum.inl.inj z))]
        exact ent_val hn.2 h
theorem ent_put {ts : List Ent} {d : Int} {v : V} (h : d ∉ ts.map (·.2.1)) : putK (entK ts) (.inl d) v = entK ts ++ [(.inl d, v)] := by
  unfold putK
  rw [if_neg]
  rw [List.any_eq_true]
  rintro ⟨kv, h1, h2⟩
  obtain ⟨x, hx, rfl⟩ := List.mem_map.mp h1
  have := of_decide_eq_true h2
  exact h (List.mem_map.mpr ⟨x, hx, Sum.inl.inj this⟩)
section
variable {P : Program} {w : World} {K : PySem.W.Frag} {mg : Str → Option Value} {base : Heap} {f f1 f2 f3 f4 f5 : Addr} {fd fd1 fd2 fd3 fd4 fd5 : FuncData}
def spLRing (K : PySem.W.Frag) : Sp := fun vs H Q _ => ∃ e : Int, vs = [.int e] ∧ e ∈ ER ∧ ∀ l H', Same H H' → H l = none → H' l = some (.lst ((polyL e).map V.int)) → Q (.ref l) H'
abbrev lrN : List Str := ["e", "table", "d", "left", "c", "by", "found", "k", "top", "i", "x"]
theorem scLR : FnScope lrN ["e"] (defScope sLRing) := ⟨rfl, rfl, rfl, by decide +kernel, rfl, by decide +kernel, by decide +kernel⟩
theorem ok_lRing (F : FnP K "_law_ring" sLRing f fd) (B : Bl mg) : FnOk P w K mg base CX0 1 f fd ["e"] (spLRing K) := by
  refine F.ok scLR (fun vs H Q E h => ?_) (fun cdv A outer s H vs Q E hr h => ?_)
  · obtain ⟨e, rfl, _⟩ := h
    rfl
  · obtain ⟨e, rfl, he, k⟩ := h
    have hu := hu_of hr
    refine ⟨_, PSs.nox (pss_cons (ps_set (i := 1) scLR.nd rfl (Or.inl rfl) pe_dnewK)
      (pss_cons (ps_for PassesOwn.never rfl (pi_list (pe_lc (own := [("d", 2)]) (g := gName 2) (te := tVar 2) rfl scLR.nd (pi_range2 rfl (B "range" (by decide +kernel)) (pa_cons pe_int (pa_cons (pe_op op_add (pv 0) pe_int) pa_nil)))
            (blkOk_by (own := [("d", 2)]) (N := lrN) (sc := defScope sLRing) (by decide +kernel)) (fun _ _ _ _ _ => pg_name (i := 2) scLR.nd rfl (Or.inl rfl)) (fun _ _ _ _ _ => pts_one (pt_cmpR op_eq (pe_op op_mod (pe_callTy call_int1 (by rfl) (B "int" (by decide +kernel)) (by decide +kernel) (pa_cons (pv 0) pa_nil)) (pv 2)) pe_int (nomark _))) (fun _ _ _ _ _ => pv 2)))
          (pg_name (i := 2) scLR.nd rfl (Or.inr rfl))
        (pss_cons (ps_set (i := 3) scLR.nd rfl (Or.inl rfl) (pe_op op_cat (pe_op op_cat (pe_lst (pa_cons (pe_un un_neg pe_int) pa_nil)) (pe_op op_rep (pe_lst (pa_cons pe_int pa_nil)) (pe_op op_sub (pv 2) pe_int))) (pe_lst (pa_cons pe_int pa_nil))))
        (pss_cons (ps_for PassesOwn.never rfl (pi_list (pe_lc (own := [("c", 4)]) (g := gName 4) (te := tVar 4) rfl scLR.nd (pi_list (pe_callB cr_sorted (by rfl) (B "sorted" (by decide +kernel)) (by decide +kernel) (pa_cons (pe_callTy (call_list_dK rfl) (by rfl) (B "list" (by decide +kernel)) (by decide +kernel) (pa_cons (pv 1) pa_nil)) pa_nil)))
              (blkOk_by (own := [("c", 4)]) (N := lrN) (sc := defScope sLRing) (by decide +kernel)) (fun _ _ _ _ _ => pg_name (i := 4) scLR.nd rfl (Or.inl rfl)) (fun _ _ _ _ _ => pts_one (pt_cmpR op_eq (pe_op op_mod (pe_callTy call_int1 (by rfl) (B "int" (by decide +kernel)) (by decide +kernel) (pa_cons (pv 2) pa_nil)) (pv 4)) pe_int (nomark _))) (fun _ _ _ _ _ => pv 4)))
            (pg_name (i := 4) scLR.nd rfl (Or.inl rfl))
          (pss_cons (ps_par (i := 5) (j := 6) rfl scLR.nd rfl rfl (by decide) rfl rfl (pa_cons (pe_dget hu (pv 1) (pv 4) (fun _ _ => rfl)) (pa_cons (pe_lst pa_nil) pa_nil)) rfl)
          (pss_cons (ps_for PassesOwn.never rfl (pi_range3 rfl (B "range" (by decide +kernel)) (pa_cons (pe_op op_sub (pe_callB call_len_seq (by rfl) (B "len" (by decide +kernel)) PySem.boot_len (pa_cons (pv 3) pa_nil)) (pe_callB call_len_seq (by rfl) (B "len" (by decide +kernel)) PySem.boot_len (pa_cons (pv 5) pa_nil))) (pa_cons (pe_un un_neg pe_int) (pa_cons (pe_un un_neg pe_int) pa_nil))))
              (pg_name (i := 7) scLR.nd rfl (Or.inl rfl))
            (pss_cons (ps_set (i := 8) scLR.nd rfl (Or.inl rfl) (pe_ix ix_list (pv 3) (pe_op op_sub (pe_op op_add (pv 7) (pe_callB call_len_seq (by rfl) (B "len" (by decide +kernel)) PySem.boot_len (pa_cons (pv 5) pa_nil))) pe_int) (fun _ _ => rfl)))
            (pss_cons (ps_expr (pe_bm PySem.F.plainAttrs_list PySem.F.slot_list_append PySem.F.type_list_append mt_append (pv 6) (pa_cons (pv 8) pa_nil)))
            (pss_one (ps_for PassesOwn.never rfl (pi_enum (by rfl) (B "enumerate" (by decide +kernel)) (pa_cons (pv 5) pa_nil)) (pg_tup rfl (pgs_cons (pg_name (i := 9) scLR.nd rfl (Or.inl rfl)) (pgs_cons (pg_name (i := 10) scLR.nd rfl (Or.inl rfl)) pgs_nil)))
              (pss_one (ps_asg (pe_op op_sub (pe_ix ix_list (pv 3) (pe_op op_add (pv 7) (pv 9)) (fun _ _ => rfl)) (pe_op op_mul (pv 8) (pv 10))) (pg_sub (pv 3) (pe_op op_add (pv 7) (pv 9)) set_list))))))))
          (pss_one (ps_set (i := 3) scLR.nd rfl (Or.inl rfl) (pe_revL (pv 6)))))))
        (pss_one (ps_dput hu (pv 1) (pv 2) (pv 3) rfl)))))
      (pss_one (ps_ret (pe_dget hu (pv 1) (pv 0) (fun _ _ => rfl)))))), ?_⟩
    have eb := er_bd e he
    obtain ⟨db, dl, dpw, d1⟩ := lr_divs e he
    refine fun T hT => ?_
    have sT : Same H (upd H T (.dK [])) := same_upd hT
    refine ⟨_, rfl, _, _, rfl, rfl, 1, e + 1, rfl, ⟨by omega, by omega, by omega, by omega⟩, fun D hD => ?_⟩
    have hTD : T ≠ D := ne_of_none upd_same hD
    have en : (e + 1 - 1).toNat = e.toNat := by
      congr 1
      omega
    rw [en]
    refine lc_range (lo := 1) (n := e.toNat) (fun i H2 => Same H H2 ∧ H2 T = some (.dK []) ∧ H2 D = some (.lst (((rgL 1 i).filter fun d => decide (e % d = 0)).map V.int))) ⟨same_new sT hD, by rw [upd_ne hTD]; exact upd_same, upd_same⟩ ?_ ?_
    · rintro i H2 hi ⟨s2, hT2, h2⟩
      refine ⟨rfl, _, rfl, Or.inl ⟨_, rfl, _, rfl, _, _, rfl, rfl, (by show (0 : Int) < 1 + (i : Int); omega), rfl, _, rfl, ?_⟩⟩
      refine ite2 (fun c => ?_) (fun c => ?_)
      · have c1 : e % (1 + (i : Int)) = 0 := eqI c
        refine ⟨_, rfl, _, h2, sl_lt ?_, same_at s2 (sT.free hD), ?_, ?_⟩
        · rw [List.length_map]
          exact Nat.le_trans (List.length_filter_le _ _) (by rw [rgL_len]; omega)
        · rw [upd_ne hTD]
          exact hT2
        · rw [upd_same, rgF_succ, if_pos (decide_eq_true c1), List.map_append]
          rfl
      · have c1 := neI c
        refine ⟨s2, hT2, ?_⟩
        rw [h2, rgF_succ, if_neg (fun z => c1 (of_decide_eq_true z))]
    · rintro H2 ⟨s2, hT2, h2⟩
      have h2' : H2 D = some (.lst ((divsL e).map V.int)) := h2
      clear h2
      have sTH : Same H (upd H T (.dK [])) := sT
      refine ⟨D, rfl, ⟨_, SqL.of h2'⟩, for_list (K := K) (a := D) (xs := (divsL e).map V.int) (fun i σ H3 => ∃ u2 u3 u4 u5 u6 u7 u8 u9 u10, σ = [some (.int e), some (.ref T), u2, u3, u4, u5, u6, u7, u8, u9, u10] ∧ Same H H3 ∧ H3 D = some (.lst ((divsL e).map V.int)) ∧ ∃ ts : List Ent, H3 T = some (.dK (entK ts)) ∧ EntAt H3 ts ∧ ts.map (·.2) = rtab e i ∧ ∀ x ∈ ts, H x.1 = none)
        ⟨none, none, none, none, none, none, none, none, none, rfl, s2, h2', [], hT2, fun x hx => absurd hx (by simp), rfl, fun x hx => absurd hx (by simp)⟩ (fun i σ H3 _ ⟨_, _, _, _, _, _, _, _, _, _, _, z, _⟩ => SqL.of z) ?_ ?_⟩
      · rintro i y σ H3 hi ⟨u2, u3, u4, u5, u6, u7, u8, u9, u10, rfl, s3, hD3, ts, hT3, ents, ets, frs⟩
        obtain ⟨d, rfl, hd⟩ := getI hi
        have il := ltL hd
        have dm := List.mem_of_getElem? hd
        have d60 := db d dm
        have ed : (divsL e).getD i 0 = d := by rw [List.getD_eq_getElem?_getD, hd]; rfl
        obtain ⟨okT, keys, tl60⟩ := lr_tab e he i (List.mem_range.mpr (by omega))
        have hin := lr_in e he i (List.mem_range.mpr il)
        rw [ed] at hin
        have tsl : ts.length = (rtab e i).length := by rw [← ets, List.length_map]
        have hTD3 : T ≠ D := ne_of hT3 hD3 (by intro z; cases z)
        -- left
        refine seq_asg ?_
        refine ⟨_, rfl, by show 1 ≤ sizeLine; decide, fun z1 hz1 => ⟨by show 1 ≤ sizeLine; decide, fun z2 hz2 => ?_⟩⟩
        have n12 : z1 ≠ z2 := ne_of_none upd_same hz2
        refine ⟨_, rfl, _, _, rfl, rfl, z2, _, _, rfl, rfl, upd_same, by omega, by omega, sl_1000 (by simp; omega), fun z3 hz3 => ?_⟩
        rw [rep_flat]
        have sA : Same H3 (upd (upd H3 z1 (.lst [.int (-1)])) z2 (.lst [.int 0])) := same_new (same_upd hz1) hz2
        have sB := same_new (o := .lst (List.replicate (d - 1).toNat (V.int 0))) sA hz3
        have g1 : upd (upd (upd H3 z1 (.lst [.int (-1)])) z2 (.lst [.int 0])) z3 (.lst (List.replicate (d - 1).toNat (V.int 0))) z1 = some (.lst [.int (-1)]) := by
          have q1 : upd (upd H3 z1 (.lst [.int (-1)])) z2 (.lst [.int 0]) z1 = some (.lst [.int (-1)]) := by rw [upd_ne n12]; exact upd_same
          rw [upd_ne (ne_of_none q1 hz3)]
          exact q1
        refine ⟨z1, z3, _, _, rfl, rfl, g1, upd_same, sl_1000 (by simp; omega), fun z4 hz4 => ?_⟩
        have sC := same_new (o := .lst ([V.int (-1)] ++ List.replicate (d - 1).toNat (V.int 0))) sB hz4
        generalize hH4 : upd (upd (upd (upd H3 z1 (.lst [.int (-1)])) z2 (.lst [.int 0])) z3 (.lst (List.replicate (d - 1).toNat (V.int 0)))) z4 (.lst ([V.int (-1)] ++ List.replicate (d - 1).toNat (V.int 0))) = H4 at sC
        have g4 : H4 z4 = some (.lst ([V.int (-1)] ++ List.replicate (d - 1).toNat (V.int 0))) := by rw [← hH4, upd_same]
        refine ⟨by show 1 ≤ sizeLine; decide, fun z5 hz5 => ?_⟩
        have s5 : Same H4 (upd H4 z5 (.lst [.int 1])) := same_upd hz5
        refine ⟨z4, z5, _, _, rfl, rfl, s5 _ _ g4, upd_same, sl_1000 (by simp; omega), fun L hL => ?_⟩
        have s6 := same_new (o := .lst ([V.int (-1)] ++ List.replicate (d - 1).toNat (V.int 0) ++ [V.int 1])) (sC.trans s5) hL
        have nL : H3 L = none := (sC.trans s5).free hL
        generalize hH6 : upd (upd H4 z5 (.lst [.int 1])) L (.lst ([V.int (-1)] ++ List.replicate (d - 1).toNat (V.int 0) ++ [V.int 1])) = H6 at s6
        have g6 : H6 L = some (.lst ((rinL (rtab e i) d 0).map V.int)) := by
          rw [← hH6, upd_same]
          show _ = some (HO.lst ((([-1] : List Int) ++ List.replicate (d - 1).toNat 0 ++ [1]).map V.int))
          simp
        -- sorted(list(table))
        refine ⟨_, rfl, T, _, rfl, s6 _ _ hT3, fun q hq => ?_⟩
        have s7 := same_new (o := .lst ((entK ts).map fun kv => kV kv.1)) s6 hq
        generalize hH7 : upd H6 q (.lst ((entK ts).map fun kv => kV kv.1)) = H7 at s7
        have g7 : H7 q = some (.lst (((rtab e i).map (·.1)).map V.int)) := by
          rw [← hH7, upd_same, ← ets]
          simp [entK, kV]
        have kpw : ((rtab e i).map (·.1)).Pairwise (· < ·) := by
          rw [keys]
          exact dpw.sublist (List.take_sublist _ _)
        refine ⟨q, (rtab e i).map (·.1), rfl, SqL.of g7, by rw [List.length_map]; omega, fun ns' S hpm hpw hS => ?_⟩
        have ens : ns' = (rtab e i).map (·.1) := List.Perm.eq_of_pairwise (le := fun a b => a ≤ b) (fun a b _ _ h1 h2 => Int.le_antisymm h1 h2) hpw (kpw.imp (fun h => Int.le_of_lt h)) hpm
        subst ens
        have s8 := same_new (o := .lst (((rtab e i).map (·.1)).map V.int)) s7 hS
        generalize hH8 : upd H7 S (.lst (((rtab e i).map (·.1)).map V.int)) = H8 at s8
        have g8 : H8 S = some (.lst (((rtab e i).map (·.1)).map V.int)) := by rw [← hH8, upd_same]
        have g7L : H7 L = some (.lst ((rinL (rtab e i) d 0).map V.int)) := by
          rw [← hH7, upd_ne (ne_of_none g6 hq)]
          exact g6
        have g8L : H8 L = some (.lst ((rinL (rtab e i) d 0).map V.int)) := by
          rw [← hH8, upd_ne (ne_of_none g7L hS)]
          exact g7L
        refine ⟨S, rfl, ⟨_, SqL.of g8⟩, fun C hC => ?_⟩
        refine lc_list (K := K) (a := S) (xs := ((rtab e i).map (·.1)).map V.int) (fun m H9 => Same H8 H9 ∧ H9 C = some (.lst ((((rtab e i).take m).filter fun p => decide (d % p.1 = 0)).map fun p => V.int p.1))) ⟨same_upd hC, upd_same⟩ (fun m H9 _ ⟨z, _⟩ => SqL.of (z _ _ g8)) ?_ ?_
        · rintro m y H9 hm ⟨s9, g9⟩
          obtain ⟨c, rfl, hc⟩ := getI hm
          rw [List.getElem?_map] at hc
          obtain ⟨pc, hpc, rfl⟩ := Option.map_eq_some_iff.mp hc
          have okp := List.all_eq_true.mp okT pc (List.mem_of_getElem? hpc)
          rw [Bool.and_eq_true] at okp
          have pc1 := of_decide_eq_true okp.1
          refine ⟨rfl, _, rfl, Or.inl ⟨_, rfl, _, rfl, _, _, rfl, rfl, (by show (0 : Int) < pc.1; omega), rfl, _, rfl, ?_⟩⟩
          refine ite2 (fun c => ?_) (fun c => ?_)
          · have c1 : d % pc.1 = 0 := eqI c
            refine ⟨_, rfl, _, g9, sl_lt ?_, same_at s9 hC, ?_⟩
            · rw [List.length_map]
              exact Nat.le_trans (List.length_filter_le _ _) (Nat.le_trans (List.length_take_le' _ _) (by omega))
            · rw [upd_same, takeS hpc, List.filter_append, List.map_append]
              simp [c1]
          · have c1 := neI c
            refine ⟨s9, ?_⟩
            rw [g9, takeS hpc, List.filter_append]
            simp [c1]
        · rintro H9 ⟨s9, g9⟩
          rw [List.length_map, List.length_map, List.take_length] at g9
          have g9' : H9 C = some (.lst (((rflt (rtab e i) d).map (·.1)).map V.int)) := by
            rw [g9, List.map_map]
            rfl
          have g9L := s9 _ _ g8L
          have s9' : Same H3 H9 := s8.trans s9
          have hCL : C ≠ L := (ne_of_none g8L hC).symm
          have nC : H3 C = none := s8.free hC
          clear g9 g8 g8L g7L g7 hH8 hH7 hH6 hH4
          have nod : (ts.map (·.2.1)).Nodup := by
            have : ts.map (·.2.1) = (rtab e i).map (·.1) := by rw [← ets, List.map_map]; rfl
            rw [this]
            exact kpw.imp (fun h => Int.ne_of_lt h)
          generalize hKF : rflt (rtab e i) d = KF at g9' hin
          refine ⟨C, rfl, ⟨_, SqL.of g9'⟩, for_list (K := K) (a := C) (xs := (KF.map (·.1)).map V.int) (fun j σ H10 => ∃ (Lx : Addr) (u4 u5 u6 u7 u8 u9 u10 : Option V), σ = [some (.int e), some (.ref T), some (.int d), some (.ref Lx), u4, u5, u6, u7, u8, u9, u10] ∧ Same H3 H10 ∧ H10 C = some (.lst ((KF.map (·.1)).map V.int)) ∧ H10 Lx = some (.lst ((rinL (rtab e i) d j).map V.int)) ∧ H3 Lx = none ∧ C ≠ Lx)
            ⟨L, u4, u5, u6, u7, u8, u9, u10, rfl, s9', g9', g9L, nL, hCL⟩ (fun j σ H10 _ ⟨_, _, _, _, _, _, _, _, _, _, z, _⟩ => SqL.of z) ?_ ?_⟩
          · rintro j y σ H10 hj ⟨Lx, v4, v5, v6, v7, v8, v9, v10, rfl, s10, gC, gL, nLx, hCLx⟩
            obtain ⟨c, rfl, hc⟩ := getI hj
            rw [List.getElem?_map] at hc
            obtain ⟨pc, hpc, rfl⟩ := Option.map_eq_some_iff.mp hc
            have jl := ltL hpc
            have bnd := hin j (List.mem_range.mpr jl)
            have epc : KF.getD j (0, []) = pc := by rw [List.getD_eq_getElem?_getD, hpc]; rfl
            rw [epc] at bnd
            have pcm : pc ∈ rtab e i := by
              have := List.mem_of_getElem? hpc
              rw [← hKF] at this
              exact (List.mem_filter.mp this).1
            have okp := List.all_eq_true.mp okT pc pcm
            rw [Bool.and_eq_true, Bool.and_eq_true] at okp
            have len2 := of_decide_eq_true okp.2.1
            have cfb : ∀ x ∈ pc.2, -1000 ≤ x ∧ x ≤ 1000 := fun x hx => by
              have := List.all_eq_true.mp okp.2.2 x hx
              rw [Bool.and_eq_true] at this
              exact ⟨of_decide_eq_true this.1, of_decide_eq_true this.2⟩
            rw [← ets] at pcm
            obtain ⟨x, hx, ex⟩ := List.mem_map.mp pcm
            subst ex
            have vx := ent_val nod hx
            have gX := s10 _ _ (ents x hx)
            have hT10 := s10 _ _ hT3
            have dg : DGet H10 T (.int x.2.1) (some (.ref x.1)) := by
              rw [← vx]
              exact DGet.k (k := Sum.inl x.2.1) hT10
            refine ⟨_, rfl, _, rfl, T, .ref x.1, rfl, dg, by decide, fun FD hFD => ⟨_, _, rfl, ?_⟩⟩
            have nFD : H3 FD = none := s10.free hFD
            have sFD : Same H10 (upd H10 FD (.lst [])) := same_upd hFD
            have hLF : Lx ≠ FD := ne_of_none gL hFD
            have hCF : C ≠ FD := ne_of_none gC hFD
            generalize hleft : rinL (rtab e i) d j = left at gL bnd
            generalize hby : x.2.2 = by_ at bnd len2 cfb gX
            refine ⟨_, rfl, Lx, _, rfl, .inl (SqL.of (sFD _ _ gL)), _, rfl, x.1, _, rfl, .inl (SqL.of (sFD _ _ gX)), _, _, rfl, rfl, _, rfl, _, rfl, _, _, _, _, rfl, RgC.neg (by rw [List.length_map, List.length_map]; omega) (by rw [List.length_map, List.length_map]; omega) (by omega) (by omega), ?_⟩
            rw [List.length_map, List.length_map]
            have hn : (((left.length : Nat) : Int) - ((by_.length : Nat) : Int) - -1).toNat = left.length - by_.length + 1 := by omega
            rw [hn]
            refine for_rangeC (lo := ((left.length : Nat) : Int) - ((by_.length : Nat) : Int)) (c := -1) (n := left.length - by_.length + 1) (fun m σ H11 => ∃ u7 u8 u9 u10, σ = [some (.int e), some (.ref T), some (.int d), some (.ref Lx), some (.int x.2.1), some (.ref x.1), some (.ref FD), u7, u8, u9, u10] ∧ Same H3 H11 ∧ H11 C = some (.lst ((KF.map (·.1)).map V.int)) ∧ H11 Lx = some (.lst ((rkL by_ left m).1.map V.int)) ∧ H11 FD = some (.lst ((rkL by_ left m).2.map V.int)))
              ⟨v7, v8, v9, v10, rfl, s10.trans sFD, sFD _ _ gC, sFD _ _ gL, upd_same⟩ ?_ ?_
            · rintro m σ H11 hm ⟨w7, w8, w9, w10, rfl, s11, gC11, gL11, gF11⟩
              have rl := rkL_len by_ left m
              have gB : H11 x.1 = some (.lst (by_.map V.int)) := by rw [← hby]; exact s11 _ _ (ents x hx)
              have nB : x.1 ≠ Lx := fun z => by rw [z] at gX; have := ents x hx; rw [z, nLx] at this; cases this
              have e1 : ((left.length : Nat) : Int) - ((by_.length : Nat) : Int) + ((m : Nat) : Int) * -1 = ((left.length - by_.length - m : Nat) : Int) := by omega
              rw [e1]
              have e2 : ((left.length - by_.length - m : Nat) : Int) + ((by_.map V.int).length : Int) - 1 = ((left.length - by_.length - m + by_.length - 1 : Nat) : Int) := by rw [List.length_map]; omega
              have tp : atI ((rkL by_ left m).1.map V.int) (((left.length - by_.length - m : Nat) : Int) + ((by_.map V.int).length : Int) - 1) = some (V.int ((rkL by_ left m).1.getD (left.length - by_.length - m + by_.length - 1) 0)) := by
                rw [e2]
                exact atI_nat (getD_of (by rw [rl.1]; omega))
              generalize htop : (rkL by_ left m).1.getD (left.length - by_.length - m + by_.length - 1) 0 = top at tp
              refine ⟨_, rfl, _, rfl, _, rfl, x.1, _, rfl, .inl (SqL.of gB), _, _, rfl, rfl, _, _, rfl, rfl, Lx, _, _, .int top, rfl, rfl, SqL.of gL11, tp, ?_⟩
              refine ⟨_, rfl, Or.inl ⟨rfl, _, SqL.of gF11⟩, _, rfl, FD, _, _, rfl, rfl, gF11, sl_lt (by rw [List.length_map, rl.2]; omega), ?_⟩
              have hLF' : Lx ≠ FD := hLF
              have nBF : x.1 ≠ FD := fun z => by have := ents x hx; rw [z, nFD] at this; cases this
              generalize hH12 : upd H11 FD (.lst ((rkL by_ left m).2.map V.int ++ [.int top])) = H12
              have s12 : Same H3 H12 := by rw [← hH12]; exact same_at s11 nFD
              have gC12 : H12 C = some (.lst ((KF.map (·.1)).map V.int)) := by rw [← hH12, upd_ne hCF]; exact gC11
              have gL12 : H12 Lx = some (.lst ((rkL by_ left m).1.map V.int)) := by rw [← hH12, upd_ne hLF]; exact gL11
              have gF12 : H12 FD = some (.lst ((rkL by_ left (m + 1)).2.map V.int)) := by
                rw [← hH12, upd_same]
                show _ = some (HO.lst (((rkL by_ left m).2 ++ [(rkL by_ left m).1.getD (left.length - by_.length - m + by_.length - 1) 0]).map V.int))
                rw [htop, List.map_append]
                rfl
              have gB12 : H12 x.1 = some (.lst (by_.map V.int)) := by rw [← hby]; exact s12 _ _ (ents x hx)
              refine ⟨_, rfl, x.1, by_.map V.int, rfl, SqL.of gB12, ?_⟩
              refine for_it (walk_enum (K := K) (a := x.1) (xs := by_.map V.int)) (fun a σ H13 => ∃ u9 u10, σ = [some (.int e), some (.ref T), some (.int d), some (.ref Lx), some (.int x.2.1), some (.ref x.1), some (.ref FD), some (.int ((left.length - by_.length - m : Nat) : Int)), some (.int top), u9, u10] ∧ Same H3 H13 ∧ H13 C = some (.lst ((KF.map (·.1)).map V.int)) ∧ H13 Lx = some (.lst ((subN top by_ (left.length - by_.length - m) (rkL by_ left m).1 a).map V.int)) ∧ H13 FD = some (.lst ((rkL by_ left (m + 1)).2.map V.int)))
                ⟨w9, w10, rfl, s12, gC12, gL12, gF12⟩ (fun a σ H13 _ ⟨_, _, _, z, _⟩ => SqL.of (by rw [← hby]; exact z _ _ (ents x hx))) ?_ ?_
              · rintro a v σ H13 H14 ha ⟨w9', w10', rfl, s13, gC13, gL13, gF13⟩ ⟨T5, c5, y5, rfl, hT5, rfl, ec, ey⟩
                obtain ⟨tv, rfl, htv⟩ := getI ey
                obtain rfl := Option.some.inj ec
                have al := ltL htv
                have tvb := cfb tv (List.mem_of_getElem? htv)
                have sl := subN_len top by_ (left.length - by_.length - m) (rkL by_ left m).1 a
                have s14 : Same H13 (upd H13 T5 (.tup [.int (a : Int), .int tv])) := same_upd hT5
                have gL14 := s14 _ _ gL13
                have e3 : ((left.length - by_.length - m : Nat) : Int) + (a : Int) = ((left.length - by_.length - m + a : Nat) : Int) := by omega
                have tp2 : atI ((subN top by_ (left.length - by_.length - m) (rkL by_ left m).1 a).map V.int) (((left.length - by_.length - m : Nat) : Int) + (a : Int)) = some (V.int ((subN top by_ (left.length - by_.length - m) (rkL by_ left m).1 a).getD (left.length - by_.length - m + a) 0)) := by
                  rw [e3]
                  exact atI_nat (getD_of (by rw [sl, rl.1]; omega))
                have e4 : by_.getD a 0 = tv := by rw [List.getD_eq_getElem?_getD, htv]; rfl
                refine ⟨T5, _, rfl, SqT.of upd_same, rfl, _, _, rfl, _, _, rfl, rfl, ?_⟩
                refine ⟨_, rfl, _, rfl, _, rfl, _, _, rfl, rfl, Lx, _, _, _, rfl, rfl, SqL.of gL14, tp2, _, rfl, _, rfl, _, _, rfl, rfl, Or.inr ⟨by omega, by omega⟩, _, _, rfl, rfl, _, rfl, _, rfl, _, rfl, _, _, rfl, rfl, Lx, _, _, left.length - by_.length - m + a, rfl, rfl, gL14, ?_, ?_⟩
                · rw [e3, List.length_map, sl, rl.1]
                  exact ixN_nat (by omega)
                · refine ⟨some (.int (a : Int)), some (.int tv), rfl, same_at (s13.trans s14) nLx, ?_, ?_, ?_⟩
                  · rw [upd_ne hCLx]
                    exact s14 _ _ gC13
                  · rw [upd_same, ← List.map_set]
                    show _ = some (HO.lst (((subN top by_ (left.length - by_.length - m) (rkL by_ left m).1 a).set (left.length - by_.length - m + a) ((subN top by_ (left.length - by_.length - m) (rkL by_ left m).1 a).getD (left.length - by_.length - m + a) 0 - top * by_.getD a 0)).map V.int))
                    rw [e4]
                  · rw [upd_ne hLF.symm]
                    exact s14 _ _ gF13
              · rintro σ H13 ⟨w9', w10', rfl, s13, gC13, gL13, gF13⟩
                rw [List.length_map] at gL13
                refine ⟨_, _, _, _, rfl, s13, gC13, ?_, gF13⟩
                rw [gL13]
                show _ = some (HO.lst ((subN ((rkL by_ left m).1.getD (left.length - by_.length - m + by_.length - 1) 0) by_ (left.length - by_.length - m) (rkL by_ left m).1 by_.length).map V.int))
                rw [htop]
            · rintro σ H11 ⟨w7, w8, w9, w10, rfl, s11, gC11, gL11, gF11⟩
              refine ⟨_, rfl, FD, _, rfl, SqL.of gF11, fun L2 hL2 => ?_⟩
              have s15 := same_new (o := .lst ((rkL by_ left (left.length - by_.length + 1)).2.map V.int).reverse) s11 hL2
              refine ⟨L2, _, _, _, _, _, _, _, rfl, s15, ?_, ?_, s11.free hL2, ne_of_none gC11 hL2⟩
              · rw [upd_ne (ne_of_none gC11 hL2)]
                exact gC11
              · rw [upd_same, ← List.map_reverse]
                show _ = some (HO.lst ((rinL (rtab e i) d (j + 1)).map V.int))
                have : rinL (rtab e i) d (j + 1) = rstep left by_ := by
                  unfold rinL at hleft ⊢
                  rw [hKF] at hleft ⊢
                  rw [takeS hpc, List.foldl_append, hleft, ← hby]
                  rfl
                rw [this]
                rfl
          · rintro σ H10 ⟨Lx, v4, v5, v6, v7, v8, v9, v10, rfl, s10, gC, gL, nLx, hCLx⟩
            rw [List.length_map, List.length_map] at gL
            have hT10 := s10 _ _ hT3
            have fresh : d ∉ ts.map (·.2.1) := by
              have e1 : ts.map (·.2.1) = (divsL e).take i := by rw [← keys, ← ets, List.map_map]; rfl
              rw [e1]
              intro z
              obtain ⟨b, hb⟩ := List.getElem?_of_mem z
              have bl := ltL hb
              rw [List.length_take] at bl
              rw [List.getElem?_take_of_lt (by omega)] at hb
              have := List.pairwise_iff_getElem.mp dpw b i (by omega) il (by omega)
              rw [List.getElem?_eq_getElem (by omega)] at hb hd
              rw [Option.some.inj hb, Option.some.inj hd] at this
              omega
            refine ⟨_, rfl, _, rfl, _, rfl, T, _, rfl, DPut.k (k := Sum.inl d) hT10 (sl_lt (by rw [List.length_map]; omega)), ?_⟩
            rw [ent_put fresh]
            have nTL : T ≠ Lx := fun z => by rw [z, nLx] at hT3; cases hT3
            refine ⟨_, _, _, _, _, _, _, _, _, rfl, same_at (s3.trans s10) hT, ?_, ts ++ [(Lx, (d, rinL (rtab e i) d KF.length))], ?_, ?_, ?_, ?_⟩
            · rw [upd_ne hTD3.symm]
              exact s10 _ _ hD3
            · rw [upd_same]
              simp [entK]
            · intro y hy
              rcases List.mem_append.mp hy with z | z
              · have q := s10 _ _ (ents y z)
                rw [upd_ne (ne_of q hT10 (by intro z; cases z))]
                exact q
              · rw [List.mem_singleton.mp z]
                rw [upd_ne nTL.symm]
                exact gL
            · rw [List.map_append, ets]
              show _ = rtab e i ++ [((divsL e).getD i 0, rinL (rtab e i) ((divsL e).getD i 0) (rflt (rtab e i) ((divsL e).getD i 0)).length)]
              rw [ed, hKF]
              rfl
            · intro y hy
              rcases List.mem_append.mp hy with z | z
              · exact frs y z
              · rw [List.mem_singleton.mp z]
                exact s3.free nLx
      · rintro σ H3 ⟨u2, u3, u4, u5, u6, u7, u8, u9, u10, rfl, s3, hD3, ts, hT3, ents, ets, frs⟩
        rw [List.length_map] at ets
        have em := lr_end e he
        obtain ⟨okT, keys, tl60⟩ := lr_tab e he (divsL e).length (List.mem_range.mpr (by omega))
        rw [← ets] at em
        obtain ⟨x, hx, ex⟩ := List.mem_map.mp em
        have nod : (ts.map (·.2.1)).Nodup := by
          have : ts.map (·.2.1) = (rtab e (divsL e).length).map (·.1) := by rw [← ets, List.map_map]; rfl
          rw [this, keys, List.take_length]
          exact dpw.imp (fun h => Int.ne_of_lt h)
        have vx := ent_val nod hx
        have dg : DGet H3 T (.int e) (some (.ref x.1)) := by
          rw [ex] at vx
          rw [← vx]
          exact DGet.k (k := Sum.inl e) hT3
        refine ⟨_, rfl, _, rfl, T, .ref x.1, rfl, dg, k x.1 H3 s3 (frs x hx) ?_⟩
        have := ents x hx
        rw [ex] at this
        exact this
end
end K08

/-! The law's numbers: made. -/
namespace K08
open PySem PySem.Spec PyProof.Rows L2
section
variable {P : Program} {w : World} {K : PySem.W.Frag} {mg : Str → Option Value} {base : Heap} {f f1 f2 f3 f4 f5 : Addr} {fd fd1 fd2 fd3 fd4 fd5 : FuncData}
def spLMade (K : PySem.W.Frag) : Sp := fun vs H Q _ => ∃ (a b : Addr) (xs : List Int) (e bt : Int), vs = [.ref a, .ref b, .int bt] ∧ e ∈ ER ∧ SqL K H a ((polyL e).map V.int) ∧ SqI K H b xs ∧ xs.length ≤ 100 ∧ 1 ≤ bt ∧ bt < 1073741824 ∧ ∀ v H', Same H H' → NumAt K H' v (lowL (redL xs (polyL e)) bt) → Q v H'
abbrev lmN : List Str := ["ring", "sums", "bottom", "left", "d", "k", "top", "i", "g", "x"]
theorem scLM : FnScope lmN ["ring", "sums", "bottom"] (defScope sLMade) := ⟨rfl, rfl, rfl, by decide +kernel, rfl, by decide +kernel, by decide +kernel⟩
theorem ok_lMade (F : FnP K "_law_made" sLMade f fd) (B : Bl mg) (F1 : FnP K "_law_gcd" sLGcd f1 fd1) (g1 : mg "_law_gcd" = some (.ref f1)) (G1 : FnOk P w K mg base CX0 1 f1 fd1 ["one", "other"] spGcd) : FnOk P w K mg base CX0 2 f fd ["ring", "sums", "bottom"] (spLMade K) := by
  have b1 : Binds K fd1 ["one", "other"] [] := F1.bindsN fun _ _ _ _ _ _ us hl => match us, hl with | [_, _], _ => rfl
  refine F.ok scLM (fun vs H Q E h => ?_) (fun cdv A outer s H vs Q E hr h => ?_)
  · obtain ⟨a, b, xs, e, bt, rfl, _⟩ := h
    rfl
  · obtain ⟨a, b, xs, e, bt, rfl, he, hRg, hSm, xl, b1', b2', k⟩ := h
    refine ⟨_, PSs.nox (pss_cons (ps_par (i := 3) (j := 4) rfl scLM.nd rfl rfl (by decide) rfl rfl (pa_cons (pe_callTy call_list_of (by rfl) (B "list" (by decide +kernel)) (by decide +kernel) (pa_cons (pv 1) pa_nil)) (pa_cons (pe_op op_sub (pe_callB call_len_seq (by rfl) (B "len" (by decide +kernel)) PySem.boot_len (pa_cons (pv 0) pa_nil)) pe_int) pa_nil)) rfl)
      (pss_cons (ps_for PassesOwn.never rfl (pi_range3 rfl (B "range" (by decide +kernel)) (pa_cons (pe_op op_sub (pe_callB call_len_seq (by rfl) (B "len" (by decide +kernel)) PySem.boot_len (pa_cons (pv 3) pa_nil)) pe_int) (pa_cons (pe_op op_sub (pv 4) pe_int) (pa_cons (pe_un un_neg pe_int) pa_nil))))
          (pg_name (i := 5) scLM.nd rfl (Or.inl rfl))
        (pss_cons (ps_set (i := 6) scLM.nd rfl (Or.inl rfl) (pe_ix ix_list (pv 3) (pv 5) (fun _ _ => rfl)))
        (pss_one (ps_if (pt_cmpR op_ne (pv 6) pe_int (nomark _))
          (pss_one (ps_for PassesOwn.never rfl (pi_range1 rfl (B "range" (by decide +kernel)) (pa_cons (pe_op op_add (pv 4) pe_int) pa_nil)) (pg_name (i := 7) scLM.nd rfl (Or.inl rfl))
            (pss_one (ps_asg (pe_op op_sub (pe_ix ix_list (pv 3) (pe_op op_add (pe_op op_sub (pv 5) (pv 4)) (pv 7)) (fun _ _ => rfl)) (pe_op op_mul (pv 6) (pe_ix ix_list (pv 0) (pv 7) (fun _ _ => rfl)))) (pg_sub (pv 3) (pe_op op_add (pe_op op_sub (pv 5) (pv 4)) (pv 7)) set_list)))))
          pss_nil))))
      (pss_cons (ps_set (i := 3) scLM.nd rfl (Or.inl rfl) (pe_slice sl_list (pe_op op_cat (pv 3) (pe_op op_rep (pe_lst (pa_cons pe_int pa_nil)) (pv 4))) po_none (po_some (pv 4))))
      (pss_cons (ps_set (i := 8) scLM.nd rfl (Or.inr rfl) (pv 2))
      (pss_cons (ps_for PassesOwn.never rfl (pi_list (pv 3)) (pg_name (i := 9) scLM.nd rfl (Or.inl rfl)) (pss_one (ps_set (i := 8) scLM.nd rfl (Or.inr rfl) (pe_call G1 hr rfl g1 F1.kp b1 .nil pass0 (pa_cons (pv 8) (pa_cons (pv 9) pa_nil))))))
      (pss_cons (ps_set (i := 8) scLM.nd rfl (Or.inr rfl) (pe_ifExp (pt_cmpR op_gt (pv 2) pe_int (nomark _)) (pv 8) (pe_un un_neg (pv 8))))
      (pss_one (ps_ret (pe_tup (pa_cons (pe_callTy call_tuple_of (by rfl) (B "tuple" (by decide +kernel)) (by decide +kernel) (pa_cons
        (pe_lc (own := [("x", 9)]) (g := gName 9) (tt := tYes) (te := tOp rFdv (tVar 9) (tVar 8)) rfl scLM.nd (pi_list (pv 3)) (blkOk_by (own := [("x", 9)]) (N := lmN) (sc := defScope sLMade) (by decide +kernel))
          (fun _ _ _ _ _ => pg_name (i := 9) scLM.nd rfl (Or.inl rfl)) (fun _ _ _ _ _ => pts_nil) (fun _ _ _ _ _ => pe_op op_fdiv (pv 9) (pv 8))) pa_nil)) (pa_cons (pe_op op_fdiv (pv 2) (pv 8)) pa_nil))))))))))), ?_⟩
    obtain ⟨m1, m2, m3, m4⟩ := er_mon e he
    generalize hPo : polyL e = po at hRg m1 m2 m3 m4 k
    have hsq : SqL K H b (xs.map V.int) ∨ SqT K H b (xs.map V.int) := hSm
    refine ⟨_, rfl, b, _, rfl, hsq, fun L hL => ?_⟩
    have sL : Same H (upd H L (.lst (xs.map V.int))) := same_upd hL
    refine ⟨_, rfl, a, _, rfl, .inl (sL.seq hRg), _, _, rfl, rfl, _, _, rfl, ?_⟩
    have gL : upd H L (.lst (xs.map V.int)) L = some (.lst (xs.map V.int)) := upd_same
    refine ⟨_, rfl, L, _, rfl, .inl (SqL.of gL), _, _, rfl, rfl, _, rfl, _, _, rfl, rfl, _, rfl, _, _, _, _, rfl, RgC.neg (by rw [List.length_map]; omega) (by rw [List.length_map]; omega) (by rw [List.length_map]; omega) (by rw [List.length_map]; omega), ?_⟩
    rw [List.length_map, List.length_map]
    have hn : (((xs.length : Nat) : Int) - 1 - (((po.length : Nat) : Int) - 1 - 1)).toNat = xs.length - (po.length - 1) := by omega
    rw [hn]
    refine for_rangeC (lo := ((xs.length : Nat) : Int) - 1) (c := -1) (n := xs.length - (po.length - 1)) (fun m σ H2 => ∃ u5 u6 u7, σ = [some (.ref a), some (.ref b), some (.int bt), some (.ref L), some (.int (((po.length : Nat) : Int) - 1)), u5, u6, u7, none, none] ∧ Same H H2 ∧ H2 L = some (.lst ((mdGo po xs m).map V.int)))
      ⟨none, none, none, rfl, sL, gL⟩ ?_ ?_
    · rintro m σ H2 hm ⟨u5, u6, u7, rfl, s2, g2⟩
      have ln := mdGo_len po xs m
      have e1 : ((xs.length : Nat) : Int) - 1 + (m : Nat) * -1 = ((xs.length - 1 - m : Nat) : Int) := by omega
      rw [e1]
      have tp : atI ((mdGo po xs m).map V.int) ((xs.length - 1 - m : Nat) : Int) = some (V.int ((mdGo po xs m).getD (xs.length - 1 - m) 0)) := atI_nat (getD_of (by rw [ln]; omega))
      have e0 : mdGo po xs (m + 1) = if (mdGo po xs m).getD (xs.length - 1 - m) 0 = 0 then mdGo po xs m
        else subN ((mdGo po xs m).getD (xs.length - 1 - m) 0) po (xs.length - 1 - m - (po.length - 1)) (mdGo po xs m) po.length := rfl
      generalize htop : (mdGo po xs m).getD (xs.length - 1 - m) 0 = top at tp e0
      refine ⟨_, rfl, _, rfl, L, _, _, .int top, rfl, rfl, SqL.of g2, tp, ?_⟩
      refine ⟨_, rfl, rfl, _, rfl, ?_⟩
      refine ite2 (fun c => ?_) (fun c => ?_)
      · have c1 : ¬ top = 0 := fun z => by rw [z] at c; simp at c
        rw [if_neg c1] at e0
        refine ⟨_, rfl, _, _, rfl, rfl, _, rfl, by omega, by omega, ?_⟩
        have e2 : (((po.length : Nat) : Int) - 1 + 1).toNat = po.length := by omega
        rw [e2]
        refine for_range (lo := 0) (n := po.length) (fun t σ H3 => ∃ u7, σ = [some (.ref a), some (.ref b), some (.int bt), some (.ref L), some (.int (((po.length : Nat) : Int) - 1)), some (.int ((xs.length - 1 - m : Nat) : Int)), some (.int top), u7, none, none] ∧ Same H H3 ∧ H3 L = some (.lst ((subN top po (xs.length - 1 - m - (po.length - 1)) (mdGo po xs m) t).map V.int)))
          ⟨u7, rfl, s2, g2⟩ ?_ ?_
        · rintro t σ H3 ht ⟨u7', rfl, s3, g3⟩
          have sl := subN_len top po (xs.length - 1 - m - (po.length - 1)) (mdGo po xs m) t
          have e3 : ((xs.length - 1 - m : Nat) : Int) - (((po.length : Nat) : Int) - 1) + (0 + (t : Int)) = ((xs.length - 1 - m - (po.length - 1) + t : Nat) : Int) := by omega
          have e4 : (0 : Int) + (t : Int) = (t : Int) := Int.zero_add _
          have tp2 : atI ((subN top po (xs.length - 1 - m - (po.length - 1)) (mdGo po xs m) t).map V.int) (((xs.length - 1 - m : Nat) : Int) - (((po.length : Nat) : Int) - 1) + (0 + (t : Int))) = some (V.int ((subN top po (xs.length - 1 - m - (po.length - 1)) (mdGo po xs m) t).getD (xs.length - 1 - m - (po.length - 1) + t) 0)) := by
            rw [e3]
            exact atI_nat (getD_of (by rw [sl, ln]; omega))
          have tp3 : atI (po.map V.int) ((0 : Int) + (t : Int)) = some (V.int (po.getD t 0)) := by
            rw [e4]
            exact atI_nat (getD_of ht)
          have cb : -1000 ≤ po.getD t 0 ∧ po.getD t 0 ≤ 1000 := by
            rw [List.getD_eq_getElem?_getD, List.getElem?_eq_getElem ht]
            exact m4 _ (List.getElem_mem _)
          refine ⟨_, rfl, _, rfl, _, rfl, _, _, rfl, rfl, _, rfl, _, _, rfl, rfl, L, _, _, _, rfl, rfl, SqL.of g3, tp2, _, rfl, _, rfl, _, rfl, a, _, _, _, rfl, rfl, s3.seq hRg, tp3, _, _, rfl, rfl, Or.inr ⟨by omega, by omega⟩, _, _, rfl, rfl, _, rfl, _, rfl, _, rfl, _, _, rfl, rfl, _, rfl, _, _, rfl, rfl, L, _, _, xs.length - 1 - m - (po.length - 1) + t, rfl, rfl, g3, ?_, ?_⟩
          · rw [e3, List.length_map, sl, ln]
            exact ixN_nat (by omega)
          · refine ⟨_, rfl, same_at s3 hL, ?_⟩
            rw [upd_same, ← List.map_set]
            rfl
        · rintro σ H3 ⟨u7', rfl, s3, g3⟩
          refine ⟨_, _, _, rfl, s3, ?_⟩
          rw [g3, e0]
      · have c1 : top = 0 := by
          by_cases z : top = 0
          · exact z
          · exact absurd (by simp [z]) c
        rw [if_pos c1] at e0
        refine ⟨_, _, _, rfl, s2, ?_⟩
        rw [g2, e0]
    · rintro σ H2 ⟨u5, u6, u7, rfl, s2, g2⟩
      have ln := mdGo_len po xs (xs.length - (po.length - 1))
      have emd : mdL po xs = redL xs po := md_red m1 m3
      refine ⟨_, rfl, by show 1 ≤ sizeLine; decide, fun z hz => ?_⟩
      have sz : Same H2 (upd H2 z (.lst [.int 0])) := same_upd hz
      have ez : (((po.length : Nat) : Int) - 1).toNat = po.length - 1 := by omega
      refine ⟨_, rfl, z, _, _, rfl, rfl, upd_same, by omega, by omega, sl_1000 (by simp; omega), fun y hy => ?_⟩
      rw [rep_flat, ez]
      have sy := same_new (o := .lst (List.replicate (po.length - 1) (V.int 0))) sz hy
      generalize hH3 : upd (upd H2 z (.lst [.int 0])) y (.lst (List.replicate (po.length - 1) (V.int 0))) = H3 at sy
      have gy : H3 y = some (.lst (List.replicate (po.length - 1) (V.int 0))) := by rw [← hH3, upd_same]
      refine ⟨L, y, _, _, rfl, rfl, sy _ _ g2, gy, sl_1000 (by rw [List.length_map, List.length_replicate, ln]; omega), fun c hc => ?_⟩
      have s4 := same_new (o := .lst ((mdGo po xs (xs.length - (po.length - 1))).map V.int ++ List.replicate (po.length - 1) (V.int 0))) sy hc
      generalize hH4 : upd H3 c (.lst ((mdGo po xs (xs.length - (po.length - 1))).map V.int ++ List.replicate (po.length - 1) (V.int 0))) = H4 at s4
      have g4 : H4 c = some (.lst ((mdGo po xs (xs.length - (po.length - 1))).map V.int ++ List.replicate (po.length - 1) (V.int 0))) := by rw [← hH4, upd_same]
      refine ⟨_, rfl, _, rfl, c, _, rfl, SqL.of g4, fun L2 hL2 => ?_⟩
      have ecut : cutV ((mdGo po xs (xs.length - (po.length - 1))).map V.int ++ List.replicate (po.length - 1) (V.int 0)) none (some (((po.length : Nat) : Int) - 1)) = (redL xs po).map V.int := by
        rw [← emd]
        unfold cutV mdL
        have e5 : ((po.length : Nat) : Int) - 1 = ((po.length - 1 : Nat) : Int) := by omega
        rw [e5, HT.sIx_nat, HT.sIx_none, List.drop_zero, List.map_take, List.map_append, List.map_replicate]
        congr 1
        rw [List.length_append, List.length_map, List.length_replicate]
        omega
      rw [ecut]
      have s5 := same_new (o := .lst ((redL xs po).map V.int)) (s2.trans s4) hL2
      generalize hH5 : upd H4 L2 (.lst ((redL xs po).map V.int)) = H5 at s5
      have g5 : H5 L2 = some (.lst ((redL xs po).map V.int)) := by rw [← hH5, upd_same]
      have rl : (redL xs po).length = po.length - 1 := redL_len' (by omega)
      generalize hRE : redL xs po = re at g5 k rl
      refine ⟨_, rfl, ?_⟩
      refine ⟨_, rfl, L2, rfl, ⟨_, SqL.of g5⟩, for_list (K := K) (a := L2) (xs := re.map V.int) (fun i σ H6 => ∃ u, σ = [some (.ref a), some (.ref b), some (.int bt), some (.ref L2), some (.int (((po.length : Nat) : Int) - 1)), u5, u6, u7, some (.int (lowC (re.take i) bt)), u] ∧ Same H5 H6) ⟨none, rfl, Same.refl _⟩ (fun i σ H6 _ ⟨_, _, z⟩ => SqL.of (z _ _ g5)) ?_ ?_⟩
      · rintro i y σ H6 hi ⟨u, rfl, s6⟩
        obtain ⟨t, rfl, ht⟩ := getI hi
        have cb := lowC_bd (re.take i) bt b1'
        refine ⟨_, rfl, _, rfl, _, _, rfl, some (.int t), ?_, s6⟩
        have e : lowC (re.take (i + 1)) bt = gcdI (lowC (re.take i) bt) t := by
          rw [takeS ht]
          unfold lowC
          rw [List.foldl_append]
          rfl
        rw [e]
        rfl
      · rintro σ H6 ⟨u, rfl, s6⟩
        rw [List.length_map, List.take_length]
        have cb := lowC_bd re bt b1'
        generalize hC : lowC re bt = G at cb
        have g6 := s6 _ _ g5
        refine ⟨_, rfl, _, _, rfl, rfl, _, rfl, ?_⟩
        refine ite2 (fun _ => ?_) fun c => absurd (decide_eq_true (by omega)) c
        refine ⟨_, rfl, ?_⟩
        refine ⟨_, rfl, L2, rfl, ⟨_, SqL.of g6⟩, fun D hD => ?_⟩
        refine lc_list (K := K) (a := L2) (xs := re.map V.int) (fun i H7 => Same H6 H7 ∧ H7 D = some (.lst (((re.take i).map fun t => t / G).map V.int))) ⟨same_upd hD, by rw [upd_same]; rfl⟩ (fun i H7 _ ⟨z, _⟩ => SqL.of (z _ _ g6)) ?_ ?_
        · rintro i y H7 hi ⟨s7, g7⟩
          obtain ⟨t, rfl, ht⟩ := getI hi
          have il := ltL ht
          refine ⟨rfl, _, rfl, _, rfl, _, _, rfl, rfl, ⟨by omega, by omega⟩, ?_⟩
          refine ⟨_, g7, sl_lt (by rw [List.length_map, List.length_map, List.length_take]; omega), same_at s7 hD, ?_⟩
          rw [upd_same, takeS ht, List.map_append, List.map_append]
          rfl
        · rintro H7 ⟨s7, g7⟩
          rw [List.length_map, List.take_length] at g7
          refine ⟨D, _, rfl, .inl ⟨SqL.of g7, fun t ht => ?_⟩⟩
          refine ⟨_, rfl, _, rfl, _, _, rfl, rfl, ⟨by omega, by omega⟩, by show 2 ≤ sizeLine; decide, fun p hp => ?_⟩
          have st := same_new (o := .tup ((re.map fun t => t / G).map V.int)) s7 ht
          have sA : Same H H6 := s5.trans s6
          refine k _ _ (sA.trans (same_new st hp)) ⟨p, t, rfl, ?_, ?_⟩
          · refine SqT.of ?_
            rw [upd_same]
            unfold lowL
            rw [hC]
          · unfold lowL
            rw [hC]
            exact (same_upd hp).tup (SqT.of upd_same)
end
end K08

/-! The law's products and sums. -/
namespace K08
open PySem PySem.Spec PyProof.Rows L2
theorem walk_zipT {K : PySem.W.Frag} {a b : Addr} {xs ys : List V} (h1 : ys.length = xs.length) : Walk (RZ.ItzT K a b) xs.length (fun H => SqT K H a xs ∧ SqT K H b ys) (YPair (fun i => xs[i]?) (fun i => ys[i]?)) := by
  refine ⟨fun i _ hi q => ⟨xs, ys, xs[i], ys[i]'(by omega), q.1, q.2, by simp [hi], by simp [show i < ys.length by omega]⟩, fun _ q => ⟨xs, ys, q.1, q.2, by simp [h1]⟩, fun i H v H' _ q y => ?_⟩
  obtain ⟨T, x, y, h2, h3, h4, h5, h6⟩ := y
  exact ⟨T, x, y, h2, h3, h4, h5 xs q.1, h6 ys q.2⟩
def mulG2 (N : Nat) (ones others : List Int) : Nat → List Int
  | 0 => List.replicate N 0
  | i + 1 => mulR (ones.getD i 0) i others (mulG2 N ones others i) others.length
theorem mulG2_len (N : Nat) (ones others : List Int) : ∀ i, (mulG2 N ones others i).length = N
  | 0 => by simp [mulG2]
  | i + 1 => by
    show (mulR _ _ _ _ _).length = _
    rw [mulR_len', mulG2_len N ones others i]
theorem dotc_mulG2 {c : Nat → Int} (N : Nat) (ones others : List Int) (hN : ones.length + others.length ≤ N + 1) : ∀ i, i ≤ ones.length → dotc c (mulG2 N ones others i) = sm i (fun a => sm others.length (fun m => ones.getD a 0 * others.getD m 0 * c (a + m)))
  | 0, _ => dotc_zero _ _
  | i + 1, h => by
    show dotc c (mulR (ones.getD i 0) i others (mulG2 N ones others i) others.length) = sm i _ + _
    rw [dotc_mulR _ _ _ _ _ (by rw [mulG2_len]; omega), dotc_mulG2 N ones others hN i (by omega)]
theorem mulG2_red {N : Nat} {ones others dv : List Int} (hd : 1 ≤ dv.length) (hN : ones.length + others.length ≤ N + 1) : redL (mulG2 N ones others ones.length) dv = mulL ones others dv := by
  unfold mulL
  refine ext_getD (by rw [redL_len' hd, redL_len' hd]) fun j hj => ?_
  rw [redL_len' hd] at hj
  rw [red_ph hd hj, red_ph hd hj]
  show dotc (Tz (dv.length - 1) dv j) _ = dotc (Tz (dv.length - 1) dv j) _
  rw [dotc_mulG2 N _ _ hN _ (Nat.le_refl _), dotc_mulGo _ _ _ (Nat.le_refl _)]
theorem redL_low {xs dv : List Int} (hd : 1 ≤ dv.length) (hx : xs.length = dv.length - 1) : redL xs dv = xs := by
  refine ext_getD (by rw [redL_len' hd, hx]) fun j hj => ?_
  rw [redL_len' hd] at hj
  rw [red_ph hd hj, ph_low _ _ (by omega)]
section
variable {P : Program} {w : World} {K : PySem.W.Frag} {mg : Str → Option Value} {base : Heap} {f f1 f2 f3 f4 f5 : Addr} {fd fd1 fd2 fd3 fd4 fd5 : FuncData}
def spLTimes (K : PySem.W.Frag) : Sp := fun vs H Q _ => ∃ (r : Addr) (v u : V) (e : Int) (a b : Num), vs = [.ref r, v, u] ∧ e ∈ ER ∧ SqL K H r ((polyL e).map V.int) ∧ NumAt K H v a ∧ NumAt K H u b ∧ a.1.length = (polyL e).length - 1 ∧ b.1.length = (polyL e).length - 1 ∧ 1 ≤ a.2 ∧ a.2 ≤ 1000 ∧ 1 ≤ b.2 ∧ b.2 ≤ 1000 ∧ (∀ t ∈ a.1, -(2 ^ 64) < t ∧ t < 2 ^ 64) ∧
  ∀ v' H', Same H H' → NumAt K H' v' (prodL e a b) → Q v' H'
abbrev ltN : List Str := ["ring", "one", "other", "sums", "i", "x", "j", "y"]
theorem scLT : FnScope ltN ["ring", "one", "other"] (defScope sLTimes) := ⟨rfl, rfl, rfl, by decide +kernel, rfl, by decide +kernel, by decide +kernel⟩
theorem ok_lTimes (F : FnP K "_law_times" sLTimes f fd) (B : Bl mg) (F1 : FnP K "_law_made" sLMade f1 fd1) (g1 : mg "_law_made" = some (.ref f1)) (G1 : FnOk P w K mg base CX0 2 f1 fd1 ["ring", "sums", "bottom"] (spLMade K)) : FnOk P w K mg base CX0 3 f fd ["ring", "one", "other"] (spLTimes K) := by
  have b1 : Binds K fd1 ["ring", "sums", "bottom"] [] := F1.bindsN fun _ _ _ _ _ _ us hl => match us, hl with | [_, _, _], _ => rfl
  refine F.ok scLT (fun vs H Q E h => ?_) (fun cdv A outer s H vs Q E hr h => ?_)
  · obtain ⟨r, v, u, e, a, b, rfl, _⟩ := h
    rfl
  · obtain ⟨r, v, u, e, a, b, rfl, he, hRg, ⟨p, t, rfl, hp, ht⟩, ⟨p2, t2, rfl, hp2, ht2⟩, la, lb, a1, a2, c1, c2, tb, k⟩ := h
    refine ⟨_, PSs.nox (pss_cons (ps_set (i := 3) scLT.nd rfl (Or.inl rfl) (pe_op op_rep (pe_lst (pa_cons pe_int pa_nil)) (pe_op op_mul pe_int (pe_callB call_len_seq (by rfl) (B "len" (by decide +kernel)) PySem.boot_len (pa_cons (pv 0) pa_nil)))))
      (pss_cons (ps_for PassesOwn.never rfl (pi_enumT (by rfl) (B "enumerate" (by decide +kernel)) (pa_cons (pe_ix ix_tup (pv 1) pe_int (fun _ _ => rfl)) pa_nil)) (pg_tup rfl (pgs_cons (pg_name (i := 4) scLT.nd rfl (Or.inl rfl)) (pgs_cons (pg_name (i := 5) scLT.nd rfl (Or.inl rfl)) pgs_nil)))
        (pss_one (ps_for PassesOwn.never rfl (pi_enumT (by rfl) (B "enumerate" (by decide +kernel)) (pa_cons (pe_ix ix_tup (pv 2) pe_int (fun _ _ => rfl)) pa_nil)) (pg_tup rfl (pgs_cons (pg_name (i := 6) scLT.nd rfl (Or.inl rfl)) (pgs_cons (pg_name (i := 7) scLT.nd rfl (Or.inl rfl)) pgs_nil)))
          (pss_one (ps_asg (pe_op op_add (pe_ix ix_list (pv 3) (pe_op op_add (pv 4) (pv 6)) (fun _ _ => rfl)) (pe_op op_mul (pv 5) (pv 7))) (pg_sub (pv 3) (pe_op op_add (pv 4) (pv 6)) set_list))))))
      (pss_one (ps_ret (pe_call G1 hr rfl g1 F1.kp b1 .nil pass0 (pa_cons (pv 0) (pa_cons (pv 3) (pa_cons (pe_op op_mul (pe_ix ix_tup (pv 1) pe_int (fun _ _ => rfl)) (pe_ix ix_tup (pv 2) pe_int (fun _ _ => rfl))) pa_nil)))))))), ?_⟩
    obtain ⟨m1, m2, m3, m4⟩ := er_mon e he
    refine ⟨by show 1 ≤ sizeLine; decide, fun z hz => ?_⟩
    have sz : Same H (upd H z (.lst [.int 0])) := same_upd hz
    have ez : ((2 : Int) * (((polyL e).map V.int).length : Int)).toNat = 2 * (polyL e).length := by rw [List.length_map]; omega
    refine ⟨_, rfl, r, _, rfl, .inl (sz.seq hRg), _, _, rfl, rfl, Or.inl ⟨by decide, by decide⟩, z, _, _, rfl, rfl, upd_same, by rw [List.length_map]; omega, by rw [List.length_map]; omega, by rw [ez]; exact sl_1000 (by simp; omega), fun D hD => ?_⟩
    rw [rep_flat, ez]
    have s1 := same_new (o := .lst (List.replicate (2 * (polyL e).length) (V.int 0))) sz hD
    have nD : H D = none := sz.free hD
    generalize hH1 : upd (upd H z (.lst [.int 0])) D (.lst (List.replicate (2 * (polyL e).length) (V.int 0))) = H1 at s1
    have g1' : H1 D = some (.lst ((mulG2 (2 * (polyL e).length) a.1 b.1 0).map V.int)) := by
      rw [← hH1, upd_same]
      simp [mulG2]
    refine ⟨_, rfl, p, _, ((0 : Nat) : Int), _, rfl, rfl, s1.tup hp, atI_nat (j := 0) rfl, t, a.1.map V.int, rfl, s1.tup ht, ?_⟩
    refine for_it (walk_enumT (K := K) (a := t) (xs := a.1.map V.int)) (fun i σ H2 => ∃ u4 u5 u6 u7, σ = [some (.ref r), some (.ref p), some (.ref p2), some (.ref D), u4, u5, u6, u7] ∧ Same H H2 ∧ H2 D = some (.lst ((mulG2 (2 * (polyL e).length) a.1 b.1 i).map V.int)))
      ⟨none, none, none, none, rfl, s1, g1'⟩ (fun i σ H2 _ ⟨_, _, _, _, _, z, _⟩ => z.tup ht) ?_ ?_
    · rintro i v σ H2 H3 hi ⟨u4, u5, u6, u7, rfl, s2, g2⟩ ⟨T5, c5, y5, rfl, hT5, rfl, ec, ey⟩
      obtain ⟨x, rfl, hx⟩ := getI ey
      obtain rfl := Option.some.inj ec
      have il := ltL hx
      have xb := tb x (List.mem_of_getElem? hx)
      have s3 : Same H2 (upd H2 T5 (.tup [.int (i : Int), .int x])) := same_upd hT5
      have ex : a.1.getD i 0 = x := by rw [List.getD_eq_getElem?_getD, hx]; rfl
      refine ⟨T5, _, rfl, SqT.of upd_same, rfl, _, _, rfl, _, _, rfl, rfl, ?_⟩
      have gD3 := s3 _ _ g2
      have s23 := s2.trans s3
      generalize hH3 : upd H2 T5 (.tup [.int (i : Int), .int x]) = H3 at gD3 s23
      refine ⟨_, rfl, p2, _, ((0 : Nat) : Int), _, rfl, rfl, s23.tup hp2, atI_nat (j := 0) rfl, t2, b.1.map V.int, rfl, s23.tup ht2, ?_⟩
      have gl := mulG2_len (2 * (polyL e).length) a.1 b.1 i
      refine for_it (walk_enumT (K := K) (a := t2) (xs := b.1.map V.int)) (fun j σ H4 => ∃ u6 u7, σ = [some (.ref r), some (.ref p), some (.ref p2), some (.ref D), some (.int (i : Int)), some (.int x), u6, u7] ∧ Same H H4 ∧ H4 D = some (.lst ((mulR x i b.1 (mulG2 (2 * (polyL e).length) a.1 b.1 i) j).map V.int)))
        ⟨u6, u7, rfl, s23, gD3⟩ (fun j σ H4 _ ⟨_, _, _, z, _⟩ => z.tup ht2) ?_ ?_
      · rintro j v σ H4 H5 hj ⟨u6', u7', rfl, s4, g4⟩ ⟨T6, c6, y6, rfl, hT6, rfl, ec6, ey6⟩
        obtain ⟨y, rfl, hy⟩ := getI ey6
        obtain rfl := Option.some.inj ec6
        have jl := ltL hy
        have ml := mulR_len x i b.1 (mulG2 (2 * (polyL e).length) a.1 b.1 i) j
        have s5 : Same H4 (upd H4 T6 (.tup [.int (j : Int), .int y])) := same_upd hT6
        have g5 := s5 _ _ g4
        have ey' : b.1.getD j 0 = y := by rw [List.getD_eq_getElem?_getD, hy]; rfl
        have e3 : (i : Int) + (j : Int) = ((i + j : Nat) : Int) := by omega
        have tp : atI ((mulR x i b.1 (mulG2 (2 * (polyL e).length) a.1 b.1 i) j).map V.int) ((i : Int) + (j : Int)) = some (V.int ((mulR x i b.1 (mulG2 (2 * (polyL e).length) a.1 b.1 i) j).getD (i + j) 0)) := by
          rw [e3]
          exact atI_nat (getD_of (by rw [ml, gl]; omega))
        refine ⟨T6, _, rfl, SqT.of upd_same, rfl, _, _, rfl, _, _, rfl, rfl, ?_⟩
        refine ⟨_, rfl, _, rfl, _, rfl, _, _, rfl, rfl, D, _, _, _, rfl, rfl, SqL.of g5, tp, _, rfl, _, rfl, _, _, rfl, rfl, Or.inl ⟨by omega, by omega⟩, _, _, rfl, rfl, _, rfl, _, rfl, _, rfl, _, _, rfl, rfl, D, _, _, i + j, rfl, rfl, g5, ?_, ?_⟩
        · rw [e3, List.length_map, ml, gl]
          exact ixN_nat (by omega)
        · refine ⟨_, _, rfl, same_at (s4.trans s5) nD, ?_⟩
          rw [upd_same, ← List.map_set]
          show _ = some (HO.lst (((mulR x i b.1 (mulG2 (2 * (polyL e).length) a.1 b.1 i) j).set (i + j) ((mulR x i b.1 (mulG2 (2 * (polyL e).length) a.1 b.1 i) j).getD (i + j) 0 + x * b.1.getD j 0)).map V.int))
          rw [ey']
      · rintro σ H4 ⟨u6', u7', rfl, s4, g4⟩
        rw [List.length_map] at g4
        refine ⟨_, _, _, _, rfl, s4, ?_⟩
        rw [g4]
        show _ = some (HO.lst ((mulR (a.1.getD i 0) i b.1 (mulG2 (2 * (polyL e).length) a.1 b.1 i) b.1.length).map V.int))
        rw [ex]
    · rintro σ H2 ⟨u4, u5, u6, u7, rfl, s2, g2⟩
      rw [List.length_map] at g2
      have q1 : 1 * 1 ≤ a.2 * b.2 := Int.mul_le_mul a1 c1 (by decide) (by omega)
      have q2 : a.2 * b.2 ≤ 1000 * 1000 := Int.mul_le_mul a2 c2 (by omega) (by decide)
      have gl := mulG2_len (2 * (polyL e).length) a.1 b.1 a.1.length
      refine ⟨_, rfl, _, rfl, _, rfl, p, _, ((1 : Nat) : Int), _, rfl, rfl, s2.tup hp, atI_nat (j := 1) rfl, _, rfl, p2, _, ((1 : Nat) : Int), _, rfl, rfl, s2.tup hp2, atI_nat (j := 1) rfl, _, _, rfl, rfl, Or.inl ⟨by omega, by omega⟩, ?_⟩
      refine ⟨r, D, _, e, a.2 * b.2, rfl, he, s2.seq hRg, .inl (SqL.of g2), by rw [gl]; omega, by omega, by omega, fun v' H3 s3 hv' => k v' H3 (s2.trans s3) ?_⟩
      rw [mulG2_red (by omega) (by omega)] at hv'
      exact hv'
end
end K08

namespace K08
open PySem PySem.Spec PyProof.Rows L2
section
variable {P : Program} {w : World} {K : PySem.W.Frag} {mg : Str → Option Value} {base : Heap} {f f1 f2 f3 f4 f5 : Addr} {fd fd1 fd2 fd3 fd4 fd5 : FuncData}
def spLPlus (K : PySem.W.Frag) : Sp := fun vs H Q _ => ∃ (r : Addr) (v u : V) (e : Int) (a b : Num) (m : Int), vs = [.ref r, v, u, .int m] ∧ e ∈ ER ∧ SqL K H r ((polyL e).map V.int) ∧ NumAt K H v a ∧ NumAt K H u b ∧ a.1.length = (polyL e).length - 1 ∧ b.1.length = (polyL e).length - 1 ∧ 1 ≤ a.2 ∧ a.2 ≤ 1000 ∧ 1 ≤ b.2 ∧ b.2 ≤ 1000 ∧ -1000 ≤ m ∧ m ≤ 1000 ∧
  ∀ v' H', Same H H' → NumAt K H' v' (sumN a b m) → Q v' H'
abbrev lsN : List Str := ["ring", "one", "other", "k", "sums", "x", "y"]
theorem scLS : FnScope lsN ["ring", "one", "other", "k"] (defScope sLPlus) := ⟨rfl, rfl, rfl, by decide +kernel, rfl, by decide +kernel, by decide +kernel⟩
theorem ok_lPlus (F : FnP K "_law_plus" sLPlus f fd) (B : Bl mg) (F1 : FnP K "_law_made" sLMade f1 fd1) (g1 : mg "_law_made" = some (.ref f1)) (G1 : FnOk P w K mg base CX0 2 f1 fd1 ["ring", "sums", "bottom"] (spLMade K)) : FnOk P w K mg base CX0 3 f fd ["ring", "one", "other", "k"] (spLPlus K) := by
  have b1 : Binds K fd1 ["ring", "sums", "bottom"] [] := F1.bindsN fun _ _ _ _ _ _ us hl => match us, hl with | [_, _, _], _ => rfl
  refine F.ok scLS (fun vs H Q E h => ?_) (fun cdv A outer s H vs Q E hr h => ?_)
  · obtain ⟨r, v, u, e, a, b, m, rfl, _⟩ := h
    rfl
  · obtain ⟨r, v, u, e, a, b, m, rfl, he, hRg, ⟨p, t, rfl, hp, ht⟩, ⟨p2, t2, rfl, hp2, ht2⟩, la, lb, a1, a2, c1, c2, k1, k2, k⟩ := h
    refine ⟨_, PSs.nox (pss_cons (ps_setLc (i := 4) (own := [("x", 5), ("y", 6)]) (g := gTup K 2 (gCons (gName 5) (gCons (gName 6) gNil))) (tt := tYes)
          (te := tOp (rI0 fun i j => .int (i + j)) (tOp rMul (tVar 5) (tOp (rIxT K) (tVar 2) (tC (.int 1)))) (tOp rMul (tOp rMul (tVar 3) (tVar 6)) (tOp (rIxT K) (tVar 1) (tC (.int 1))))) rfl scLS.nd rfl rfl (sw_true rfl rfl rfl (by decide +kernel))
          (RZ.pi_zipA rfl (B "zip" (by decide +kernel)) (pa_cons (pe_ix ix_tup (pv 1) pe_int (fun _ _ => rfl)) (pa_cons (pe_ix ix_tup (pv 2) pe_int (fun _ _ => rfl)) pa_nil))) (blkOk_by (own := [("x", 5), ("y", 6)]) (N := lsN) (sc := defScope sLPlus) (by decide +kernel))
          (fun _ _ _ _ _ => pg_tup rfl (pgs_cons (pg_name (i := 5) scLS.nd rfl (Or.inl rfl)) (pgs_cons (pg_name (i := 6) scLS.nd rfl (Or.inl rfl)) pgs_nil))) (fun _ _ _ _ _ => pts_nil)
          (fun _ _ _ _ _ => pe_op op_add (pe_op op_mul (pv 5) (pe_ix ix_tup (pv 2) pe_int (fun _ _ => rfl))) (pe_op op_mul (pe_op op_mul (pv 3) (pv 6)) (pe_ix ix_tup (pv 1) pe_int (fun _ _ => rfl)))))
      (pss_one (ps_ret (pe_call G1 hr rfl g1 F1.kp b1 .nil pass0 (pa_cons (pv 0) (pa_cons (pv 4) (pa_cons (pe_op op_mul (pe_ix ix_tup (pv 1) pe_int (fun _ _ => rfl)) (pe_ix ix_tup (pv 2) pe_int (fun _ _ => rfl))) pa_nil))))))), ?_⟩
    obtain ⟨m1, m2, m3, m4⟩ := er_mon e he
    refine ⟨_, rfl, p, _, ((0 : Nat) : Int), _, rfl, rfl, hp, atI_nat (j := 0) rfl, _, rfl, p2, _, ((0 : Nat) : Int), _, rfl, rfl, hp2, atI_nat (j := 0) rfl, t, t2, a.1.map V.int, b.1.map V.int, rfl, .inr ⟨ht, ht2, fun D hD => ?_⟩⟩
    refine lc_it (walk_zipT (K := K) (a := t) (b := t2) (xs := a.1.map V.int) (ys := b.1.map V.int) (by simp [la, lb])) (fun i H2 => Same H H2 ∧ H2 D = some (.lst (((List.range i).map fun k => a.1.getD k 0 * b.2 + m * b.1.getD k 0 * a.2).map V.int))) ⟨same_upd hD, upd_same⟩ (fun i H2 _ ⟨s2, _⟩ => ⟨s2.tup ht, s2.tup ht2⟩) ?_ ?_
    · rintro i z H2 H3 hi ⟨s2, h2⟩ ⟨Tt, c5, y5, rfl, hT, rfl, ec, ey⟩
      obtain ⟨x, rfl, hx⟩ := getI ec
      obtain ⟨y, rfl, hy⟩ := getI ey
      have s3 : Same H2 (upd H2 Tt (.tup [.int x, .int y])) := same_upd hT
      have il := ltL hx
      have ex : a.1.getD i 0 = x := by rw [List.getD_eq_getElem?_getD, hx]; rfl
      have ey' : b.1.getD i 0 = y := by rw [List.getD_eq_getElem?_getD, hy]; rfl
      have s23 := s2.trans s3
      have h3 := s3 _ _ h2
      refine ⟨Tt, _, rfl, SqT.of upd_same, rfl, _, _, rfl, _, _, rfl, rfl, rfl, ?_⟩
      refine ⟨_, rfl, _, rfl, p2, _, ((1 : Nat) : Int), _, rfl, rfl, s23.tup hp2, atI_nat (j := 1) rfl, _, _, rfl, rfl, Or.inr ⟨by omega, by omega⟩, _, rfl, _, rfl, _, _, rfl, rfl, Or.inl ⟨by omega, by omega⟩, _, rfl, p, _, ((1 : Nat) : Int), _, rfl, rfl, s23.tup hp, atI_nat (j := 1) rfl, _, _, rfl, rfl, Or.inr ⟨by omega, by omega⟩, _, _, rfl, rfl, ?_⟩
      refine ⟨_, h3, sl_lt (by rw [List.length_map, List.length_map, List.length_range]; omega), same_at s23 hD, ?_⟩
      rw [upd_same, List.range_succ, List.map_append, List.map_append]
      show _ = some (HO.lst (_ ++ [V.int (a.1.getD i 0 * b.2 + m * b.1.getD i 0 * a.2)]))
      rw [ex, ey']
    · rintro H2 ⟨s2, h2⟩
      rw [List.length_map] at h2
      have h2' : H2 D = some (.lst ((sumT a b m).map V.int)) := h2
      have q1 : 1 * 1 ≤ a.2 * b.2 := Int.mul_le_mul a1 c1 (by decide) (by omega)
      have q2 : a.2 * b.2 ≤ 1000 * 1000 := Int.mul_le_mul a2 c2 (by omega) (by decide)
      have sl := sumT_len a b m
      refine ⟨_, rfl, _, rfl, _, rfl, p, _, ((1 : Nat) : Int), _, rfl, rfl, s2.tup hp, atI_nat (j := 1) rfl, _, rfl, p2, _, ((1 : Nat) : Int), _, rfl, rfl, s2.tup hp2, atI_nat (j := 1) rfl, _, _, rfl, rfl, Or.inl ⟨by omega, by omega⟩, ?_⟩
      refine ⟨r, D, _, e, a.2 * b.2, rfl, he, s2.seq hRg, .inl (SqL.of h2'), by rw [sl]; omega, by omega, by omega, fun v' H3 s3 hv' => k v' H3 (s2.trans s3) ?_⟩
      rw [redL_low (by omega) (by rw [sl, la])] at hv'
      exact hv'
end
end K08

/-! The law's drawn numbers. -/
namespace K08
open PySem PySem.Spec PyProof.Rows L2
/-- a ring polynomial's list, off the deck -/
def RingAt (l : Addr) (H : Hp) (r : Addr) (e : Int) : Prop := H r = some (.lst ((polyL e).map V.int)) ∧ r ≠ l
theorem Keeps.ring {d l r : Addr} {H H' : Hp} {e : Int} (k : Keeps d l H H') (D : DeckAt d l H) (h : RingAt l H r e) : RingAt l H' r e := by
  obtain ⟨⟨m, j, h1⟩, _, _⟩ := deck_ref D
  exact ⟨k _ _ h.1 (ne_of h.1 h1 (by intro z; cases z)) h.2, h.2⟩
theorem _root_.L2.Same.ring {l r : Addr} {H H' : Hp} {e : Int} (s : Same H H') (h : RingAt l H r e) : RingAt l H' r e := ⟨s _ _ h.1, h.2⟩
theorem Same.keeps {d l : Addr} {H H' : Hp} (s : Same H H') : Keeps d l H H' := fun b o e _ _ => s b o e
theorem Keeps.num {d l : Addr} {K : PySem.W.Frag} {H H' : Hp} {v : V} {n : Num} (k : Keeps d l H H') (D : DeckAt d l H) (h : NumAt K H v n) : NumAt K H' v n := by
  obtain ⟨p, t, rfl, h1, h2⟩ := h
  exact ⟨p, t, rfl, k.sqt D h1, k.sqt D h2⟩
structure GoodN (e : Int) (n : Num) : Prop where
  ok : NumOk e n
  six : n.2 ∣ 6
  small : ∀ t ∈ n.1, -3 ≤ t ∧ t ≤ 3
theorem er_deg : ∀ e ∈ ER, (unitsL e).length = (polyL e).length - 1 := by decide +kernel
theorem good_low {e : Int} (he : e ∈ ER) {tops : List Int} {b : Int} (hl : tops.length = (polyL e).length - 1) (h1 : 1 ≤ b) (h2 : b ≤ 3) (ht : ∀ t ∈ tops, -3 ≤ t ∧ t ≤ 3) : GoodN e (lowL tops b) := by
  have d := low_dvd tops b h1
  have p := low_pos (v := tops) h1
  have q := Int.le_of_dvd (by omega) d
  refine ⟨⟨by rw [low_len, hl, er_deg e he], p, by omega, low_low h1⟩, Int.dvd_trans d ?_, fun t h => ?_⟩
  · have : b = 1 ∨ b = 2 ∨ b = 3 := by omega
    rcases this with z | z | z <;> rw [z] <;> decide
  · obtain ⟨x, hx, rfl⟩ := List.mem_map.mp h
    have g := lowC_pos tops b h1
    have xb := ht x hx
    obtain ⟨c, hc⟩ := (lowC_dvd tops b).2 x hx
    have e1 : x / lowC tops b = c := by
      conv => lhs; lhs; rw [hc]
      exact Int.mul_ediv_cancel_left _ (by omega)
    rw [e1]
    generalize lowC tops b = G at g hc
    refine ⟨?_, ?_⟩
    · rcases Int.lt_or_le c 0 with z | z
      · have : G * c ≤ 1 * c := Int.mul_le_mul_of_nonpos_right g (by omega)
        omega
      · omega
    · rcases Int.lt_or_le c 0 with z | z
      · omega
      · have : 1 * c ≤ G * c := Int.mul_le_mul_of_nonneg_right g z
        omega
abbrev rGtI : R2 := rI0 fun i j => .bl (decide (j < i))
section
variable {P : Program} {w : World} {K : PySem.W.Frag} {mg : Str → Option Value} {base : Heap} {f f1 f2 f3 f4 f5 : Addr} {fd fd1 fd2 fd3 fd4 fd5 : FuncData}
def spLNumber (K : PySem.W.Frag) : Sp := fun vs H Q _ => ∃ (d l r : Addr) (e : Int), vs = [.ref d, .ref r, .int 3] ∧ e ∈ ER ∧ DeckAt d l H ∧ RingAt l H r e ∧ ∀ v n H', DeckAt d l H' → Keeps d l H H' → NumAt K H' v n → GoodN e n → Q v H'
abbrev lnN : List Str := ["deck", "ring", "size", "way", "d", "tops", "i"]
theorem scLN : FnScope lnN ["deck", "ring", "size"] (defScope sLNumber) := ⟨rfl, rfl, rfl, by decide +kernel, rfl, by decide +kernel, by decide +kernel⟩
theorem ok_lNumber (F : FnP K "_law_number" sLNumber f fd) (B : Bl mg) (F1 : FnP K "_law_draw" sDraw f1 fd1) (g1 : mg "_law_draw" = some (.ref f1)) (G1 : FnOk P w K mg base CX0 1 f1 fd1 ["deck", "many"] spDraw) (F2 : FnP K "_law_made" sLMade f2 fd2) (g2 : mg "_law_made" = some (.ref f2)) (G2 : FnOk P w K mg base CX0 2 f2 fd2 ["ring", "sums", "bottom"] (spLMade K)) :
    FnOk P w K mg base CX0 3 f fd ["deck", "ring", "size"] (spLNumber K) := by
  have b1 : Binds K fd1 ["deck", "many"] [] := F1.bindsN fun _ _ _ _ _ _ us hl => match us, hl with | [_, _], _ => rfl
  have b2 : Binds K fd2 ["ring", "sums", "bottom"] [] := F2.bindsN fun _ _ _ _ _ _ us hl => match us, hl with | [_, _, _], _ => rfl
  refine F.ok scLN (fun vs H Q E h => ?_) (fun cdv A outer s H vs Q E hr h => ?_)
  · obtain ⟨d, l, r, e, rfl, _⟩ := h
    rfl
  · obtain ⟨d, l, r, e, rfl, he, D, hRg, k⟩ := h
    refine ⟨_, PSs.nox (pss_cons (ps_asg (pe_tup (pa_cons (pe_call G1 (hr.mono (by decide)) rfl g1 F1.kp b1 .nil pass0 (pa_cons (pv 0) (pa_cons pe_int pa_nil))) (pa_cons (pe_op op_sub (pe_callB call_len_seq (by rfl) (B "len" (by decide +kernel)) PySem.boot_len (pa_cons (pv 1) pa_nil)) pe_int) pa_nil)))
        (pg_tup rfl (pgs_cons (pg_name (i := 3) scLN.nd rfl (Or.inr rfl)) (pgs_cons (pg_name (i := 4) scLN.nd rfl (Or.inl rfl)) pgs_nil))))
      (pss_cons (ps_setLc (i := 5) (own := [("i", 6)]) (g := gName 6) (tt := tYes)
          (te := tIf (tOr (tTest (tOp rGtI (tVar 3) (tC (.int 1)))) (tTest (tOp rEq (tVar 6) (tC (.int 0))))) (tOp rMinus (tCall spDraw [] E0 (tCons (tVar 0) (tCons (tOp rPlus (tOp rMul (tC (.int 2)) (tVar 2)) (tC (.int 1))) tNil))) (tVar 2)) (tC (.int 0))) rfl scLN.nd rfl rfl (sw_true rfl rfl rfl (by decide +kernel))
          (pi_range1 rfl (B "range" (by decide +kernel)) (pa_cons (pv 4) pa_nil)) (blkOk_by (own := [("i", 6)]) (N := lnN) (sc := defScope sLNumber) (by decide +kernel))
          (fun _ _ _ _ _ => pg_name (i := 6) scLN.nd rfl (Or.inl rfl)) (fun _ _ _ _ _ => pts_nil)
          (fun _ _ _ _ _ => pe_ifExp (PW.pt (pw_or (pt_cmpR op_gt (pv 3) pe_int (nomark _)) (pw_or1 (pt_cmpR op_eq (pv 6) pe_int (nomark _))))) (pe_op op_sub (pe_call G1 (hr.mono (by decide)) rfl g1 F1.kp b1 .nil pass0 (pa_cons (pv 0) (pa_cons (pe_op op_add (pe_op op_mul pe_int (pv 2)) pe_int) pa_nil))) (pv 2)) pe_int))
      (pss_cons (ps_if (pt_cmpR op_eq (pv 3) pe_int (nomark _)) (pss_one (ps_set (i := 5) scLN.nd rfl (Or.inl rfl) (pe_op op_rep (pe_lst (pa_cons pe_int pa_nil)) (pv 4)))) pss_nil)
      (pss_one (ps_ret (pe_call G2 hr rfl g2 F2.kp b2 .nil pass0 (pa_cons (pv 1) (pa_cons (pv 5) (pa_cons
        (pe_ifExp (PW.pt (pw_or (pt_cmpR op_gt (pv 3) pe_int (nomark _)) (pw_or1 (pt_cmpR op_eq (pv 3) pe_int (nomark _))))) (pe_op op_add pe_int (pe_call G1 (hr.mono (by decide)) rfl g1 F1.kp b1 .nil pass0 (pa_cons (pv 0) (pa_cons (pv 2) pa_nil)))) pe_int) pa_nil))))))))), ?_⟩
    obtain ⟨m1, m2, m3, m4⟩ := er_mon e he
    refine ⟨_, rfl, d, l, 7, rfl, D, by decide, by decide, fun wy H1 w0 w1 D1 k1 => ?_⟩
    have r1 := k1.ring D hRg
    refine ⟨_, rfl, r, _, rfl, .inl (SqL.of r1.1), _, _, rfl, rfl, by show 2 ≤ sizeLine; decide, fun pt hpt => ?_⟩
    have sp : Same H1 (upd H1 pt (.tup [.int wy, .int ((((polyL e).map V.int).length : Int) - 1)])) := same_upd hpt
    have ed : (((polyL e).map V.int).length : Int) - 1 = (((polyL e).length - 1 : Nat) : Int) := by rw [List.length_map]; omega
    refine ⟨pt, _, rfl, SqT.of upd_same, rfl, _, _, rfl, _, _, rfl, rfl, ?_⟩
    simp only [ed]
    rw [ed] at sp
    generalize upd H1 pt (.tup [.int wy, .int (((polyL e).length - 1 : Nat) : Int)]) = H2 at sp
    have D2 := sp.deck D1
    have k2 : Keeps d l H H2 := k1.trans (Same.keeps sp)
    have r2 := sp.ring r1
    generalize hdg : (polyL e).length - 1 = dgr at ed
    refine ⟨_, rfl, _, rfl, by omega, by omega, fun C hC => ?_⟩
    rw [Int.toNat_natCast]
    obtain ⟨⟨mm, jj, hd2⟩, ns2, hl2⟩ := deck_ref D2
    have Cd : C ≠ d := (ne_of_none hd2 hC).symm
    have Cl : C ≠ l := (ne_of_none hl2 hC).symm
    refine lc_range (lo := 0) (n := dgr) (fun i H3 => DeckAt d l H3 ∧ Keeps d l H2 H3 ∧ ∃ ts : List Int, H3 C = some (.lst (ts.map V.int)) ∧ ts.length = i ∧ ∀ t ∈ ts, -3 ≤ t ∧ t ≤ 3) ⟨D2.new hC, .new hC, [], upd_same, rfl, fun t ht => absurd ht (by simp)⟩ ?_ ?_
    · rintro i H3 hi ⟨D3, k3, ts, h3, tl, tb⟩
      refine ⟨rfl, ?_⟩
      have fin : ∀ (t : Int) (H4 : Hp), -3 ≤ t → t ≤ 3 → DeckAt d l H4 → Keeps d l H2 H4 → H4 C = some (.lst (ts.map V.int)) → ∃ acc, H4 C = some (.lst acc) ∧ acc.length < sizeLine ∧ (DeckAt d l (upd H4 C (.lst (acc ++ [.int t]))) ∧ Keeps d l H2 (upd H4 C (.lst (acc ++ [.int t]))) ∧ ∃ ts : List Int, upd H4 C (.lst (acc ++ [.int t])) C = some (.lst (ts.map V.int)) ∧ ts.length = i + 1 ∧ ∀ t ∈ ts, -3 ≤ t ∧ t ≤ 3) := by
        intro t H4 t0 t1 D4 k4 h4
        refine ⟨_, h4, sl_lt (by rw [List.length_map]; omega), ?_, ?_, ts ++ [t], ?_, by rw [List.length_append, tl]; rfl, fun x hx => ?_⟩
        · obtain ⟨n', m', j', e1, e2, e3⟩ := D4
          exact ⟨n', m', j', by rw [upd_ne Cd.symm]; exact e1, by rw [upd_ne Cl.symm]; exact e2, e3⟩
        · intro b o eb nb nl
          rw [upd_ne (ne_of_none eb hC)]
          exact k4 b o eb nb nl
        · rw [upd_same, List.map_append]
          rfl
        · rcases List.mem_append.mp hx with z | z
          · exact tb x z
          · rw [List.mem_singleton.mp z]
            exact ⟨t0, t1⟩
      have drawn : ∀ (Q2 : VK), (∀ (t : Int) (H4 : Hp), -3 ≤ t → t ≤ 3 → DeckAt d l H4 → Keeps d l H2 H4 → H4 C = some (.lst (ts.map V.int)) → Q2 (.int t) H4) → tOp rMinus (tCall spDraw [] E0 (tCons (tVar 0) (tCons (tOp rPlus (tOp rMul (tC (.int 2)) (tVar 2)) (tC (.int 1))) tNil))) (tVar 2) [some (.ref d), some (.ref r), some (.int 3), some (.int wy), some (.int (dgr : Int)), none, some (.int (0 + (i : Int)))] H3 Q2 := by
        intro Q2 q
        refine ⟨_, rfl, _, rfl, _, _, rfl, rfl, Or.inl ⟨by decide, by decide⟩, _, _, rfl, rfl, d, l, 7, rfl, D3, by decide, by decide, fun x H4 x0 x1 D4 k4 => ⟨_, rfl, _, _, rfl, rfl, ?_⟩⟩
        exact q _ H4 (by omega) (by omega) D4 (k3.trans k4) (k4 _ _ h3 Cd Cl)
      refine ⟨_, rfl, _, _, rfl, rfl, _, rfl, ?_⟩
      refine ite2 (fun _ => ?_) (fun _ => ?_)
      · exact drawn _ fun t H4 t0 t1 D4 k4 h4 => fin t H4 t0 t1 D4 k4 h4
      · refine ⟨_, rfl, rfl, _, rfl, ?_⟩
        refine ite2 (fun _ => ?_) (fun _ => ?_)
        · exact drawn _ fun t H4 t0 t1 D4 k4 h4 => fin t H4 t0 t1 D4 k4 h4
        · exact fin 0 H3 (by decide) (by decide) D3 k3 h3
    · rintro H3 ⟨D3, k3, ts, h3, tl, tb⟩
      have r3 := k3.ring D2 r2
      have kA := k2.trans k3
      have nC : H C = none → True := fun _ => trivial
      -- the list of tops, whichever it is, then made
      have goOn : ∀ (T : Addr) (H4 : Hp) (xs : List Int), DeckAt d l H4 → Keeps d l H H4 → RingAt l H4 r e → H4 T = some (.lst (xs.map V.int)) → T ≠ d → T ≠ l → xs.length = dgr → (∀ t ∈ xs, -3 ≤ t ∧ t ≤ 3) →
          (tRet (tCall (spLMade K) [] E0 (tCons (tVar 1) (tCons (tVar 5) (tCons (tIf (tOr (tTest (tOp (rI0 fun i j => V.bl (decide (j < i))) (tVar 3) (tC (V.int 3)))) (tTest (tOp rEq (tVar 3) (tC (V.int 1))))) (tOp (rI0 fun i j => V.int (i + j)) (tC (V.int 1)) (tCall spDraw [] E0 (tCons (tVar 0) (tCons (tVar 2) tNil)))) (tC (V.int 1))) tNil))))) { nx := fun x H' => Q V.non H', rt := Q } [some (.ref d), some (.ref r), some (.int 3), some (.int wy), some (.int (dgr : Int)), some (.ref T), none] H4 := by
        intro T H4 xs D4 k4 r4 hT Td Tl xl xb
        have made : ∀ (b : Int) (H5 : Hp), 1 ≤ b → b ≤ 3 → DeckAt d l H5 → Keeps d l H4 H5 → spLMade K [.ref r, .ref T, .int b] H5 Q E0 := by
          intro b H5 hb1 hb3 D5 k5
          have rr := k5.ring D4 r4
          refine ⟨r, T, xs, e, b, rfl, he, SqL.of rr.1, .inl (SqL.of (k5 _ _ hT Td Tl)), by rw [xl]; omega, hb1, by omega, fun v H6 s6 hv => ?_⟩
          rw [redL_low (by omega) (by omega)] at hv
          exact k v _ H6 (s6.deck D5) ((k4.trans k5).trans (Same.keeps s6)) hv (good_low he (by omega) hb1 hb3 xb)
        have drw : ∀ (Q2 : VK), (∀ (b : Int) (H5 : Hp), 1 ≤ b → b ≤ 3 → DeckAt d l H5 → Keeps d l H4 H5 → Q2 (.int b) H5) → tOp (rI0 fun i j => V.int (i + j)) (tC (V.int 1)) (tCall spDraw [] E0 (tCons (tVar 0) (tCons (tVar 2) tNil))) [some (.ref d), some (.ref r), some (.int 3), some (.int wy), some (.int (dgr : Int)), some (.ref T), none] H4 Q2 := by
          intro Q2 q
          exact ⟨_, rfl, _, rfl, d, l, 3, rfl, D4, by decide, by decide, fun x H5 x0 x1 D5 k5 => ⟨_, _, rfl, rfl, q _ H5 (by omega) (by omega) D5 k5⟩⟩
        refine ⟨_, rfl, _, rfl, _, rfl, _, _, rfl, rfl, _, rfl, ?_⟩
        refine ite2 (fun _ => ?_) (fun _ => ?_)
        · exact drw _ fun b H5 hb1 hb3 D5 k5 => made b H5 hb1 hb3 D5 k5
        · refine ⟨_, rfl, rfl, _, rfl, ?_⟩
          refine ite2 (fun _ => ?_) (fun _ => ?_)
          · exact drw _ fun b H5 hb1 hb3 D5 k5 => made b H5 hb1 hb3 D5 k5
          · exact made 1 H4 (by decide) (by decide) D4 .refl
      refine ⟨_, rfl, rfl, _, rfl, ?_⟩
      refine ite2 (fun _ => ?_) (fun _ => ?_)
      · refine ⟨by show 1 ≤ sizeLine; decide, fun z hz => ?_⟩
        have sz : Same H3 (upd H3 z (.lst [.int 0])) := same_upd hz
        refine ⟨_, rfl, z, _, _, rfl, rfl, upd_same, by omega, by omega, sl_1000 (by simp; omega), fun T hT => ?_⟩
        rw [rep_flat, Int.toNat_natCast]
        have sT := same_new (o := .lst (List.replicate dgr (V.int 0))) sz hT
        have DT := sT.deck D3
        obtain ⟨⟨mm2, jj2, hd3⟩, ns3, hl3⟩ := deck_ref D3
        have gT : upd (upd H3 z (.lst [.int 0])) T (.lst (List.replicate dgr (V.int 0))) T = some (.lst ((List.replicate dgr (0 : Int)).map V.int)) := by
          rw [upd_same]
          simp
        exact goOn T _ (List.replicate dgr 0) DT (kA.trans (Same.keeps sT)) (sT.ring r3) gT (ne_of_none (sz _ _ hd3) hT).symm (ne_of_none (sz _ _ hl3) hT).symm (by simp) (fun t ht => by rw [(List.mem_replicate.mp ht).2]; omega)
      · exact goOn C H3 ts D3 kA r3 h3 Cd Cl tl tb
end
end K08

/-! zip of a tuple and a list. -/
namespace K08
open PySem PySem.Spec PyProof.Rows L2
/-- a tuple and a list of one length as they stand at each turn, the items in new pairs -/
def ItZq (K : PySem.W.Frag) (a b : Addr) : It :=
  ⟨fun i H => ∃ (xs ys : List V) (x y : V), SqT K H a xs ∧ SqL K H b ys ∧ xs[i]? = some x ∧ ys[i]? = some y,
    fun i H v H' => ∃ T x y, v = .ref T ∧ H T = none ∧ H' = upd H T (.tup [x, y]) ∧ (∀ xs, SqT K H a xs → xs[i]? = some x) ∧ ∀ ys, SqL K H b ys → ys[i]? = some y,
    fun i H => ∃ xs ys : List V, SqT K H a xs ∧ SqL K H b ys ∧ xs.length = i ∧ ys.length = i⟩
theorem turn_zipQ {P : Program} {w : World} {K : PySem.W.Frag} {elts : List Expr} {kk : Nat} {tpos : Pos} {a b z TI TO i1 i2 : Addr} (S : ZipSep2 z TI TO i1 i2 [i1, a] [i2, b]) (na : a ≠ i1) (nb : b ≠ i2) :
    Turn P w K (.Tuple elts kk tpos) (ItZq K a b) [z, TI, TO, i1, i2] z (fun i h => IsZip h z TI TO .none ∧ IsTupOf2 h TI (.ref i1) (.ref i2) ∧ (∃ a1 a2, IsTupOf2 h TO a1 a2) ∧ h.IsTupleIter i1 a i ∧ h.IsListIter i2 b i) where
  mem := by simp
  obj := fun i h st e he => by
    obtain ⟨hz, hTI, ⟨x, y, hTO⟩, ⟨o1, e1, _, d1⟩, ⟨o2, e2, _, d2⟩⟩ := st
    have e' : e = z ∨ e = TI ∨ e = TO ∨ e = i1 ∨ e = i2 := by simpa using he
    rcases e' with q | q | q | q | q
    · rw [q]; exact ⟨_, hz, fun v q => nomatch q⟩
    · rw [q]; exact ⟨_, hTI, fun v q => nomatch q⟩
    · rw [q]; exact ⟨_, hTO, fun v q => nomatch q⟩
    · rw [q]; exact ⟨o1, e1, fun v q => by rw [d1] at q; cases q⟩
    · rw [q]; exact ⟨o2, e2, fun v q => by rw [d2] at q; cases q⟩
  keep := fun i h h' st k => by
    obtain ⟨hz, hTI, ⟨x, y, hTO⟩, h1, h2⟩ := st
    exact ⟨k z (by simp) _ hz, k TI (by simp) _ hTI, ⟨x, y, k TO (by simp) _ hTO⟩, h1.at fun o q => k i1 (by simp) o q, h2.at fun o q => k i2 (by simp) o q⟩
  item := by
    intro X hP hw hK hc i pins s σ H E I hf st hg
    subst hP hw hK
    obtain ⟨hz, hTI, hTO, h1, h2⟩ := st
    obtain ⟨xs, ys, x, y, hqx, hqy, hx, hy⟩ := hg
    obtain ⟨its1, rv1, p1, _⟩ := I.tuple hqx
    obtain ⟨its2, rv2, p2, _⟩ := I.list hqy
    obtain ⟨v1, g1, r1⟩ := rv1.get hx
    obtain ⟨v2, g2, r2⟩ := rv2.get hy
    have hh : X.A.in1.handled = none := I.ok.hd hc
    have G := GoesN.zip2 (prog := X.prog) (w := X.w) (A := X.A) (elts := elts) (x1 := kk) (pos := tpos) S (Draws.tuple hh i1 a na its1.toArray) (Draws.list hh i2 b nb its2.toArray)
    have l1 := ltL g1
    have l2 := ltL g2
    refine G.goes i s (fun u s2 => ∃ x H', Inv X pins σ H' s2 ∧ RelV x u ∧ (ItZq X.K a b).yld i H x H' ∧ _ ∧ ∀ b ∈ [z, TI, TO, i1, i2], H' b = none) E (by simp; omega) ⟨hz, hTI, hTO, ⟨h1, p1⟩, ⟨h2, p2.isList⟩⟩ fun v h' tk hY st2 hk htk => ?_
    obtain ⟨T, w1, w2, rfl, hT, q1, q2, hI⟩ := hY
    obtain ⟨z', TI', TO', ⟨k1, _⟩, ⟨k2, _⟩⟩ := st2
    have e1 : w1 = v1 := by simpa [g1] using q1.symm
    have e2 : w2 = v2 := by simpa [g2] using q2.symm
    subst e1 e2
    have new : ObjOk X.prog X.w (upd H T (.tup [x, y])) h' T (.tup [x, y]) := ⟨by show 2 ≤ sizeLine; decide, [w1, w2], .cons r1 (.cons r2 .nil), hI⟩
    have I1 := I.turnedNew (t' := tk) (ch := [z, TO, i1, i2]) hk (fun b hb => hf b (by simp at hb ⊢; rcases hb with q | q | q | q <;> simp [q])) hT new
    refine ⟨.ref T, _, I1, rfl, ⟨T, x, y, rfl, I.hok.fresh hT, rfl, fun l hl => by rw [I.tuple_inj hl hqx]; exact hx, fun l hl => by rw [I.list_inj hl hqy]; exact hy⟩, ⟨z', TI', TO', k1, k2⟩, fun e he => ?_⟩
    have hlt : e < s.heap.objs.size := by
      have e' : e = z ∨ e = TI ∨ e = TO ∨ e = i1 ∨ e = i2 := by simpa using he
      obtain ⟨_, _, hTO'⟩ := hTO
      obtain ⟨_, f1, _⟩ := h1
      obtain ⟨_, f2, _⟩ := h2
      rcases e' with q | q | q | q | q
      · rw [q]; exact Heap.lt_size hz
      · rw [q]; exact Heap.lt_size hTI
      · rw [q]; exact Heap.lt_size hTO'
      · rw [q]; exact Heap.lt_size f1
      · rw [q]; exact Heap.lt_size f2
    rw [upd_ne (Nat.ne_of_lt (Nat.lt_of_lt_of_le hlt hT))]
    exact (hf e he).1
  done := by
    intro X hP hw hK hc i pins s σ H E I hf st hg
    subst hP hw hK
    obtain ⟨hz, hTI, hTO, h1, h2⟩ := st
    obtain ⟨xs, ys, hqx, hqy, n1, n2⟩ := hg
    obtain ⟨its1, rv1, p1, _⟩ := I.tuple hqx
    obtain ⟨its2, rv2, p2, _⟩ := I.list hqy
    have l1 := rv1.length
    have l2 := rv2.length
    have hh : X.A.in1.handled = none := I.ok.hd hc
    have G := GoesN.zip2 (prog := X.prog) (w := X.w) (A := X.A) (elts := elts) (x1 := kk) (pos := tpos) S (Draws.tuple hh i1 a na its1.toArray) (Draws.list hh i2 b nb its2.toArray)
    have en : min its1.toArray.size its2.toArray.size = i := by simp; omega
    rw [en] at G
    exact G.stops s _ E ⟨hz, hTI, hTO, ⟨h1, p1⟩, ⟨h2, p2.isList⟩⟩ fun h' tk hk htk => I.turnedL (t' := tk) (ch := [z, TO, i1, i2]) hk (fun b hb => hf b (by simp at hb ⊢; rcases hb with q | q | q | q <;> simp [q]))
  self := fun A i s Q E st h => wpAny_pyIter_zip st.1 h
def iZipQ (K : PySem.W.Frag) (ta : TA) : TI := fun σ H R => ta σ H fun vs H1 => ∃ a b xs ys, vs = [.ref a, .ref b] ∧ SqT K H1 a xs ∧ SqL K H1 b ys ∧ R (ItZq K a b) H1
theorem pi_zipQ {X : Cx} {e e2 : Expr} {ta : TA} {p pos tpos : Pos} {elts : List Expr} {kk : Nat} (hg : Gl X "zip") (hm : X.mg "zip" = none) (ha : PA X [e, e2] ta)
    (hs : starEach [e, e2] X.env = (false, eval e X.env) :: starEach [e2] X.env := by rfl) (hpl : (backTo pos (starEach [e2] X.env)).any (·.1) = false := by rfl) : PI X (.Tuple elts kk tpos) (.Call (.Name "zip" p) [e, e2] [] pos) (iZipQ X.K ta) := by
  refine ⟨fun pins s σ H R I h => ?_⟩
  refine Call_ (ld_blt I hg hm PyProof.Rows.boot_zip (PyProof.Rows.callWith_type1 (thn (ha.run pos pins s σ H _ I h) fun us s1 ⟨vs, H1, I1, r1, q1⟩ => ?_) hs hpl))
  obtain ⟨a, b, xs, ys, rfl, hqx, hqy, q⟩ := q1
  cases r1 with
  | cons r rr =>
    cases rr with
    | cons r' rr =>
      cases rr
      cases r
      cases r'
      obtain ⟨its1, rv1, p1, _⟩ := I1.tuple hqx
      obtain ⟨its2, rv2, p2, _⟩ := I1.list hqy
      obtain ⟨o1, ho1, _⟩ := id p1
      obtain ⟨o2, ho2, _⟩ := id p2.isList
      have la := Heap.lt_size ho1
      have lb := Heap.lt_size ho2
      generalize hN : s1.heap.objs.size = N at la lb
      refine zip_begins2 (begins_tuple a its1.toArray) (begins_list b its2.toArray) p1 p2.isList fun h' hz hTI hTO g1 g2 hsz hk => wpAny_pyIter_zip hz ?_
      rw [hN] at hz hTI hTO g1 g2 ⊢
      have I2 : Inv X pins σ H1 { s1 with heap := h' } := I1.kept (t' := s1.toks) hk
      have S : ZipSep2 (N + 4) (N + 2) (N + 3) N (N + 1) [N, a] [N + 1, b] := zip_sep2 (fun d hd => by rw [List.mem_singleton.mp hd]; exact la) (fun d hd => by rw [List.mem_singleton.mp hd]; exact lb)
      refine ⟨N + 4, [N + 4, N + 2, N + 3, N, N + 1], _, _, H1, rfl, I2, turn_zipQ S (Nat.ne_of_lt la) (Nat.ne_of_lt (Nat.lt_succ_of_lt lb)), ⟨hz, hTI, ⟨_, _, hTO⟩, ⟨_, g1, rfl, rfl⟩, ⟨_, g2, rfl, rfl⟩⟩, fun d hd => ?_, q⟩
      have hle : s1.heap.objs.size ≤ d := by
        have e' : d = N + 4 ∨ d = N + 2 ∨ d = N + 3 ∨ d = N ∨ d = N + 1 := by simpa using hd
        rw [hN]
        rcases e' with z | z | z | z | z
        · rw [z]; exact Nat.le_add_right _ _
        · rw [z]; exact Nat.le_add_right _ _
        · rw [z]; exact Nat.le_add_right _ _
        · rw [z]; exact Nat.le_refl _
        · rw [z]; exact Nat.le_add_right _ _
      exact ⟨(I1.fpOk hle (I1.hok.fresh hle)).1, (I1.fpOk hle (I1.hok.fresh hle)).2⟩
theorem walk_zipQ {K : PySem.W.Frag} {a b : Addr} {xs ys : List V} (h1 : ys.length = xs.length) : Walk (ItZq K a b) xs.length (fun H => SqT K H a xs ∧ SqL K H b ys) (YPair (fun i => xs[i]?) (fun i => ys[i]?)) := by
  refine ⟨fun i _ hi q => ⟨xs, ys, xs[i], ys[i]'(by omega), q.1, q.2, by simp [hi], by simp [show i < ys.length by omega]⟩, fun _ q => ⟨xs, ys, q.1, q.2, rfl, h1⟩, fun i H v H' _ q y => ?_⟩
  obtain ⟨T, x, y, h2, h3, h4, h5, h6⟩ := y
  exact ⟨T, x, y, h2, h3, h4, h5 xs q.1, h6 ys q.2⟩
end K08

/-! The law's voices. -/
namespace K08
open PySem PySem.Spec PyProof.Rows L2
theorem lcm_gcd {a b : Int} (ha : 1 ≤ a) (hb : 1 ≤ b) : a * (b / gcdI a b) = lcmI a b := by
  obtain ⟨m, rfl⟩ := Int.eq_ofNat_of_zero_le (show 0 ≤ a by omega)
  obtain ⟨n, rfl⟩ := Int.eq_ofNat_of_zero_le (show 0 ≤ b by omega)
  unfold gcdI lcmI
  show (m : Int) * ((n : Int) / ((Nat.gcd m n : Nat) : Int)) = (((Nat.lcm 1 m).lcm n : Nat) : Int)
  rw [Nat.lcm_one_left, Nat.lcm, ← Int.natCast_ediv, ← Int.natCast_mul, Nat.mul_div_assoc _ (Nat.gcd_dvd_right _ _)]
def stpL (r : List Int) (e sg : Int) (label : List Int) (n : Nat) : List Int := (List.range n).map fun j => sg * label.getD j 0 * (e / r.getD j 0)
def prdL (r : List Int) (e sg : Int) (place label : List Int) (n : Nat) : List Int := (List.range n).map fun j => place.getD j 0 * (sg * label.getD j 0 * (e / r.getD j 0))
theorem prd_sum (r : List Int) (e sg : Int) (place label : List Int) : ∀ n, (prdL r e sg place label n).sum = sg * pairGo r e place label n
  | 0 => by show (0 : Int) = sg * 0; omega
  | n + 1 => by
    unfold prdL
    rw [List.range_succ, List.map_append, List.sum_append]
    show (prdL r e sg place label n).sum + (([n].map fun j => place.getD j 0 * (sg * label.getD j 0 * (e / r.getD j 0))).sum) = sg * (pairGo r e place label n + place.getD n 0 * label.getD n 0 * (e / r.getD n 0))
    rw [prd_sum r e sg place label n, Int.mul_add]
    congr 1
    simp
    ac_rfl
theorem stepT_zero {e : Int} (he : 0 < e) {tot : List Int} (hl : tot.length = e.toNat) (j : Int) : stepT e tot j 0 = tot := by
  have h0 := Int.emod_nonneg j (show e ≠ 0 by omega)
  have h1 := Int.emod_lt_of_pos j he
  unfold stepT
  rw [Int.add_zero]
  refine ext_getD (by simp) fun k hk => ?_
  rw [getD_set (by omega)]
  by_cases q : k = (j % e).toNat
  · rw [if_pos q, q]
  · rw [if_neg q]
theorem at_eq (sg G e k : Int) : ((sg * G) % e + k) % e = (sg * (G % e) + k) % e := by
  rw [Int.emod_add_emod, Int.add_emod (sg * (G % e)), Int.mul_emod sg (G % e), Int.emod_emod_of_dvd _ (Int.dvd_refl e), ← Int.mul_emod, ← Int.add_emod]
def lvL (r : List Int) (ns : List Num) (sg ov : Int) : List Num := (placesL r).map fun l => lowL (tsL r sg l (levT ns)) (levB ns * ov)
theorem rr_in : ∀ r ∈ RR, ∀ p ∈ placesL r, p.length = r.length ∧ ∀ x ∈ p, 0 ≤ x ∧ x < 60 := by decide +kernel
theorem rr_lev : ∀ r ∈ RR, ∀ k ∈ List.range r.length, 1 ≤ ordL r / r.getD k 0 ∧ ordL r / r.getD k 0 ≤ 60 ∧ 2 ≤ r.getD k 0 ∧ r.getD k 0 ≤ 60 := by decide +kernel
theorem num_at {K : PySem.W.Frag} {H : Hp} {v : V} {n : Num} {D : Addr} {ys : List V} {o : HO} (h : NumAt K H v n) (hD : H D = some (.lst ys)) : NumAt K (upd H D o) v n := by
  obtain ⟨p, t, rfl, h1, h2⟩ := h
  exact ⟨p, t, rfl, sqt_at h1 hD, sqt_at h2 hD⟩
section
variable {P : Program} {w : World} {K : PySem.W.Frag} {mg : Str → Option Value} {base : Heap} {f f1 f2 f3 f4 f5 : Addr} {fd fd1 fd2 fd3 fd4 fd5 : FuncData}
def spLV (K : PySem.W.Frag) : Sp := fun vs H Q _ => ∃ (v u : V) (rg : Addr) (r : List Int) (ns : List Num) (sg ov : Int), vs = [v, .ref rg, u, .int sg, .int ov] ∧ TupI K H v r ∧ SqL K H rg ((polyL (ordL r)).map V.int) ∧ RowAt K H u ns ∧ r ∈ RR ∧ RowOk r ns ∧ -1 ≤ sg ∧ sg ≤ 1 ∧ 1 ≤ ov ∧ ov ≤ 16 ∧
  ∀ v' H', Same H H' → RowAt K H' v' (lvL r ns sg ov) → Q v' H'
abbrev lvN : List Str := ["rings", "ring", "row", "sign", "over", "e", "bottom", "places", "found", "tops", "low", "label", "sums", "steps", "k", "length", "place", "at", "times_by", "i", "top", "to", "x", "step"]
theorem scLV : FnScope lvN ["rings", "ring", "row", "sign", "over"] (defScope sLVoices) := ⟨rfl, rfl, rfl, by decide +kernel, rfl, by decide +kernel, by decide +kernel⟩
theorem ok_lV (F : FnP K "_law_voices" sLVoices f fd) (B : Bl mg) (F1 : FnP K "_law_order" sLOrder f1 fd1) (g1 : mg "_law_order" = some (.ref f1)) (G1 : FnOk P w K mg base CX0 2 f1 fd1 ["rings"] (spLOrder K))
    (F2 : FnP K "_law_places" sLPlaces f2 fd2) (g2 : mg "_law_places" = some (.ref f2)) (G2 : FnOk P w K mg base CX0 1 f2 fd2 ["rings"] (spLPl K)) (F3 : FnP K "_law_gcd" sLGcd f3 fd3) (g3 : mg "_law_gcd" = some (.ref f3)) (G3 : FnOk P w K mg base CX0 1 f3 fd3 ["one", "other"] spGcd)
    (F4 : FnP K "_law_made" sLMade f4 fd4) (g4 : mg "_law_made" = some (.ref f4)) (G4 : FnOk P w K mg base CX0 2 f4 fd4 ["ring", "sums", "bottom"] (spLMade K)) : FnOk P w K mg base CX0 3 f fd ["rings", "ring", "row", "sign", "over"] (spLV K) := by
  have b1 : Binds K fd1 ["rings"] [] := F1.bindsN fun _ _ _ _ _ _ us hl => match us, hl with | [_], _ => rfl
  have b2 : Binds K fd2 ["rings"] [] := F2.bindsN fun _ _ _ _ _ _ us hl => match us, hl with | [_], _ => rfl
  have b3 : Binds K fd3 ["one", "other"] [] := F3.bindsN fun _ _ _ _ _ _ us hl => match us, hl with | [_, _], _ => rfl
  have b4 : Binds K fd4 ["ring", "sums", "bottom"] [] := F4.bindsN fun _ _ _ _ _ _ us hl => match us, hl with | [_, _, _], _ => rfl
  refine F.ok scLV (fun vs H Q E h => ?_) (fun cdv A outer s H vs Q E hr h => ?_)
  · obtain ⟨v, u, rg, r, ns, sg, ov, rfl, _⟩ := h
    rfl
  · obtain ⟨v, u, rg, r, ns, sg, ov, rfl, hv, hRg, hR, h14, ro, sg1, sg2, ov1, ov2, k⟩ := h
    refine ⟨_, PSs.nox (pss_cons (ps_asg (pe_tup (pa_cons (pe_call G1 hr rfl g1 F1.kp b1 .nil pass0 (pa_cons (pv 0) pa_nil)) (pa_cons pe_int (pa_cons (pe_call G2 (hr.mono (by decide)) rfl g2 F2.kp b2 .nil pass0 (pa_cons (pv 0) pa_nil)) (pa_cons (pe_lst pa_nil) pa_nil)))))
        (pg_tup rfl (pgs_cons (pg_name (i := 5) scLV.nd rfl (Or.inr rfl)) (pgs_cons (pg_name (i := 6) scLV.nd rfl (Or.inl rfl)) (pgs_cons (pg_name (i := 7) scLV.nd rfl (Or.inl rfl)) (pgs_cons (pg_name (i := 8) scLV.nd rfl (Or.inl rfl)) pgs_nil))))))
      (pss_cons (ps_for PassesOwn.never rfl (pi_tup (pv 2)) (pg_tup rfl (pgs_cons (pg_name (i := 9) scLV.nd rfl (Or.inl rfl)) (pgs_cons (pg_name (i := 10) scLV.nd rfl (Or.inl rfl)) pgs_nil)))
        (pss_one (ps_set (i := 6) scLV.nd rfl (Or.inl rfl) (pe_op op_mul (pv 6) (pe_op op_fdiv (pv 10) (pe_call G3 (hr.mono (by decide)) rfl g3 F3.kp b3 .nil pass0 (pa_cons (pv 6) (pa_cons (pv 10) pa_nil))))))))
      (pss_cons (ps_for PassesOwn.never rfl (pi_list (pv 7)) (pg_name (i := 11) scLV.nd rfl (Or.inl rfl))
        (pss_cons (ps_par (i := 12) (j := 13) rfl scLV.nd rfl rfl (by decide) rfl rfl (pa_cons (pe_op op_rep (pe_lst (pa_cons pe_int pa_nil)) (pv 5)) (pa_cons
            (pe_lc (own := [("k", 14), ("length", 15)]) (g := gTup K 2 (gCons (gName 14) (gCons (gName 15) gNil))) (tt := tYes) (te := tOp rMul (tOp rMul (tVar 3) (tVar 14)) (tOp rFdv (tVar 5) (tVar 15))) rfl scLV.nd (RZ.pi_zipA rfl (B "zip" (by decide +kernel)) (pa_cons (pv 11) (pa_cons (pv 0) pa_nil)))
              (blkOk_by (own := [("k", 14), ("length", 15)]) (N := lvN) (sc := defScope sLVoices) (by decide +kernel)) (fun _ _ _ _ _ => pg_tup rfl (pgs_cons (pg_name (i := 14) scLV.nd rfl (Or.inl rfl)) (pgs_cons (pg_name (i := 15) scLV.nd rfl (Or.inl rfl)) pgs_nil))) (fun _ _ _ _ _ => pts_nil)
              (fun _ _ _ _ _ => pe_op op_mul (pe_op op_mul (pv 3) (pv 14)) (pe_op op_fdiv (pv 5) (pv 15)))) pa_nil)) rfl)
        (pss_cons (ps_for PassesOwn.never rfl (pi_zipM (by rfl) (B "zip" (by decide +kernel)) (pa_cons (pv 7) (pa_cons (pv 2) pa_nil))) (pg_tup rfl (pgs_cons (pg_name (i := 16) scLV.nd rfl (Or.inl rfl)) (pgs_cons (pg_tup rfl (pgs_cons (pg_name (i := 9) scLV.nd rfl (Or.inl rfl)) (pgs_cons (pg_name (i := 10) scLV.nd rfl (Or.inl rfl)) pgs_nil))) pgs_nil)))
          (pss_cons (ps_par (i := 17) (j := 18) rfl scLV.nd rfl rfl (by decide) rfl rfl (pa_cons (pe_op op_mod (pe_callTy call_int1 (by rfl) (B "int" (by decide +kernel)) (by decide +kernel) (pa_cons (pe_callB (cr_sum rfl) (by rfl) (B "sum" (by decide +kernel)) (by decide +kernel) (pa_cons
              (pe_lc (own := [("x", 22), ("step", 23)]) (g := gTup K 2 (gCons (gName 22) (gCons (gName 23) gNil))) (tt := tYes) (te := tOp rMul (tVar 22) (tVar 23)) rfl scLV.nd (pi_zipQ (by rfl) (B "zip" (by decide +kernel)) (pa_cons (pv 16) (pa_cons (pv 13) pa_nil)))
                (blkOk_by (own := [("x", 22), ("step", 23)]) (N := lvN) (sc := defScope sLVoices) (by decide +kernel)) (fun _ _ _ _ _ => pg_tup rfl (pgs_cons (pg_name (i := 22) scLV.nd rfl (Or.inl rfl)) (pgs_cons (pg_name (i := 23) scLV.nd rfl (Or.inl rfl)) pgs_nil))) (fun _ _ _ _ _ => pts_nil)
                (fun _ _ _ _ _ => pe_op op_mul (pv 22) (pv 23))) pa_nil)) pa_nil)) (pv 5)) (pa_cons (pe_op op_fdiv (pv 6) (pv 10)) pa_nil)) rfl)
          (pss_one (ps_for PassesOwn.never rfl (pi_enumT (by rfl) (B "enumerate" (by decide +kernel)) (pa_cons (pv 9) pa_nil)) (pg_tup rfl (pgs_cons (pg_name (i := 19) scLV.nd rfl (Or.inl rfl)) (pgs_cons (pg_name (i := 20) scLV.nd rfl (Or.inl rfl)) pgs_nil)))
            (pss_one (ps_if (pt_cmpR op_ne (pv 20) pe_int (nomark _))
              (pss_cons (ps_set (i := 21) scLV.nd rfl (Or.inl rfl) (pe_op op_mod (pe_callTy call_int1 (by rfl) (B "int" (by decide +kernel)) (by decide +kernel) (pa_cons (pe_op op_add (pv 17) (pv 19)) pa_nil)) (pv 5)))
              (pss_one (ps_asg (pe_op op_add (pe_ix ix_list (pv 12) (pv 21) (fun _ _ => rfl)) (pe_op op_mul (pv 20) (pv 18))) (pg_sub (pv 12) (pv 21) set_list))))
              pss_nil))))))
        (pss_one (ps_expr (pe_bm PySem.F.plainAttrs_list PySem.F.slot_list_append PySem.F.type_list_append mt_append (pv 8) (pa_cons (pe_call G4 hr rfl g4 F4.kp b4 .nil pass0 (pa_cons (pv 1) (pa_cons (pv 12) (pa_cons (pe_op op_mul (pv 6) (pv 4)) pa_nil)))) pa_nil)))))))
      (pss_one (ps_ret (pe_callTy call_tuple_of (by rfl) (B "tuple" (by decide +kernel)) (by decide +kernel) (pa_cons (pv 8) pa_nil))))))), ?_⟩
    obtain ⟨ar, rfl, har⟩ := hv
    obtain ⟨aw, us, rfl, haw, hN⟩ := hR
    have hu := hN.1
    have he := er_in r h14
    have eb := er_bd _ he
    have ep := er_poly _ he
    have l16 := rr_pl0 r h14
    have lns := ro.len
    refine ⟨_, rfl, _, r, rfl, ⟨ar, rfl, har⟩, h14, fun H1 s1 => ?_⟩
    refine ⟨_, rfl, _, r, rfl, ⟨ar, rfl, s1.tup har⟩, h14, fun pl0 H2 s2 hpl => ?_⟩
    refine ⟨by decide, fun F hF => ?_⟩
    have sF : Same H2 (upd H2 F (.lst [])) := same_upd hF
    have hFpl : F ≠ pl0 := by
      obtain ⟨ks0, hk0, _⟩ := id hpl
      exact (ne_of_none hk0 hF).symm
    refine ⟨by show 4 ≤ sizeLine; decide, fun pt hpt => ?_⟩
    have sP : Same (upd H2 F (.lst [])) (upd (upd H2 F (.lst [])) pt (.tup [.int (ordL r), .int 1, .ref pl0, .ref F])) := same_upd hpt
    refine ⟨pt, _, rfl, SqT.of upd_same, rfl, _, _, rfl, _, _, rfl, _, _, rfl, _, _, rfl, rfl, ?_⟩
    obtain ⟨kp, hk1, hk2, hk3⟩ := (sF.trans sP).pll hpl
    have s3 : Same H (upd (upd H2 F (.lst [])) pt (.tup [.int (ordL r), .int 1, .ref pl0, .ref F])) := (s1.trans s2).trans (sF.trans sP)
    have nF : H F = none := (s1.trans s2).free hF
    have gF : upd (upd H2 F (.lst [])) pt (.tup [.int (ordL r), .int 1, .ref pl0, .ref F]) F = some (.lst []) := by
      rw [upd_ne (ne_of_none upd_same hpt)]
      exact upd_same
    generalize upd (upd H2 F (.lst [])) pt (.tup [.int (ordL r), .int 1, .ref pl0, .ref F]) = H3 at s3 gF hk1 hk3
    have hkl : (rf kp).length = (placesL r).length := by rw [← hk2, List.length_map, List.length_map]
    -- the bottoms
    refine ⟨_, rfl, aw, rfl, ⟨_, s3.tup haw⟩, for_tup (K := K) (a := aw) (xs := us) (fun i σ H4 => ∃ u9 u10, σ = [some (.ref ar), some (.ref rg), some (.ref aw), some (.int sg), some (.int ov), some (.int (ordL r)), some (.int (levB (ns.take i))), some (.ref pl0), some (.ref F), u9, u10, none, none, none, none, none, none, none, none, none, none, none, none, none] ∧ H4 = H3)
      ⟨none, none, rfl, rfl⟩ (fun i σ H4 _ ⟨_, _, _, e⟩ => by rw [e]; exact s3.tup haw) ?_ ?_⟩
    · rintro i y σ H4 hi ⟨u9, u10, rfl, rfl⟩
      obtain ⟨n, hn, p, t, rfl, hp, ht⟩ := hN.get hi
      have il := ltL hn
      have b0 := ro.lev i (by omega)
      have b1 := ro.lev (i + 1) (by omega)
      have bn := ro.item n (List.mem_of_getElem? hn)
      have e : levB (ns.take (i + 1)) = lcmI (levB (ns.take i)) n.2 := by
        rw [takeS hn]
        unfold levB
        rw [List.foldl_append]
        rfl
      have gp := gcdI_bd (b := n.2) b0.1
      have gp2 := gcdI_bd (b := levB (ns.take i)) bn.1
      have ge : gcdI (levB (ns.take i)) n.2 = gcdI n.2 (levB (ns.take i)) := by unfold gcdI; rw [Nat.gcd_comm]
      have e2 := lcm_gcd b0.1 bn.1
      refine ⟨p, _, rfl, s3.tup hp, rfl, _, _, rfl, _, _, rfl, rfl, ?_⟩
      refine ⟨_, rfl, _, rfl, _, rfl, _, rfl, _, _, rfl, _, _, rfl, rfl, ⟨by omega, by omega⟩, _, _, rfl, rfl, Or.inl ⟨by omega, by omega⟩, ?_⟩
      refine ⟨some (.ref t), some (.int n.2), ?_, rfl⟩
      have e3 : levB (ns.take (i + 1)) = levB (ns.take i) * (n.2 / gcdI (levB (ns.take i)) n.2) := by rw [e, e2]
      rw [e3]
      rfl
    · rintro σ H4 ⟨u9, u10, rfl, rfl⟩
      rw [hu, List.take_length]
      have bB := ro.lev ns.length (Nat.le_refl _)
      rw [List.take_length] at bB
      refine ⟨_, rfl, pl0, rfl, ⟨_, SqL.of hk1⟩, for_list (K := K) (a := pl0) (xs := rf kp) (fun i σ H4 => ∃ u9 u10 u11 u12 u13 u16 u17 u18 u19 u20 u21, σ = [some (.ref ar), some (.ref rg), some (.ref aw), some (.int sg), some (.int ov), some (.int (ordL r)), some (.int (levB ns)), some (.ref pl0), some (.ref F), u9, u10, u11, u12, u13, none, none, u16, u17, u18, u19, u20, u21, none, none] ∧ Same H H4 ∧ H4 pl0 = some (.lst (rf kp)) ∧ TL K H4 kp ∧ ∃ vs, H4 F = some (.lst vs) ∧ Nums K H4 vs ((lvL r ns sg ov).take i))
        ⟨_, _, none, none, none, none, none, none, none, none, none, rfl, s3, hk1, hk3, [], gF, nums_nil⟩ (fun i σ H4 _ ⟨_, _, _, _, _, _, _, _, _, _, _, _, _, z, _⟩ => SqL.of z) ?_ ?_⟩
      · rintro i y σ H4 hi ⟨u9, u10, u11, u12, u13, u16, u17, u18, u19, u20, u21, rfl, s4, hpl4, tk4, vs, hF4, hV⟩
        obtain ⟨q, rfl, hq⟩ := getR hi
        have hqm := List.mem_of_getElem? hq
        have hq2 : (placesL r)[i]? = some q.2 := by rw [← hk2, List.getElem?_map, hq]; rfl
        have hqp : q.2 ∈ placesL r := List.mem_of_getElem? hq2
        have tq := tk4 q hqm
        have qin := rr_in r h14 q.2 hqp
        have il := ltL hq2
        -- sums, steps
        refine ⟨by show 1 ≤ sizeLine; decide, fun z hz => ?_⟩
        have sz : Same H4 (upd H4 z (.lst [.int 0])) := same_upd hz
        refine ⟨_, rfl, z, _, _, rfl, rfl, upd_same, by omega, by omega, sl_1000 (by simp; omega), fun S hS => ?_⟩
        rw [rep_flat]
        have s5 := same_new (o := .lst (List.replicate (ordL r).toNat (V.int 0))) sz hS
        have nS4 : H4 S = none := sz.free hS
        generalize hH5 : upd (upd H4 z (.lst [.int 0])) S (.lst (List.replicate (ordL r).toNat (V.int 0))) = H5 at s5
        have g5 : H5 S = some (.lst ((tsGo r (ordL r) sg q.2 (levT ns) 0).map V.int)) := by
          rw [← hH5, upd_same]
          simp [tsGo]
        refine ⟨_, rfl, _, rfl, q.1, ar, q.2.map V.int, r.map V.int, rfl, .inr ⟨s5.tup tq, (s4.trans s5).tup har, fun D hD => ?_⟩⟩
        have hSD : S ≠ D := ne_of_none g5 hD
        refine lc_it (walk_zipT (K := K) (a := q.1) (b := ar) (xs := q.2.map V.int) (ys := r.map V.int) (by simp [qin.1])) (fun j H6 => Same H5 H6 ∧ H6 D = some (.lst ((stpL r (ordL r) sg q.2 j).map V.int))) ⟨same_upd hD, upd_same⟩ (fun j H6 _ ⟨z, _⟩ => ⟨(s5.trans z).tup tq, ((s4.trans s5).trans z).tup har⟩) ?_ ?_
        · rintro j zz H6 H7 hj ⟨s6, h6⟩ ⟨Tt, c5, y5, rfl, hT, rfl, ec, ey⟩
          obtain ⟨x, rfl, hx⟩ := getI ec
          obtain ⟨y, rfl, hy⟩ := getI ey
          have st : Same H6 (upd H6 Tt (.tup [.int x, .int y])) := same_upd hT
          have jl := ltL hy
          have lv := rr_lev r h14 j (List.mem_range.mpr jl)
          have ey' : r.getD j 0 = y := by rw [List.getD_eq_getElem?_getD, hy]; rfl
          have ex : q.2.getD j 0 = x := by rw [List.getD_eq_getElem?_getD, hx]; rfl
          rw [ey'] at lv
          have xb := qin.2 x (List.mem_of_getElem? hx)
          refine ⟨Tt, _, rfl, SqT.of upd_same, rfl, _, _, rfl, _, _, rfl, rfl, rfl, ?_⟩
          refine ⟨_, rfl, _, rfl, _, _, rfl, rfl, Or.inl ⟨by omega, by omega⟩, _, rfl, _, rfl, _, _, rfl, rfl, ⟨by omega, by omega⟩, _, _, rfl, rfl, Or.inr ⟨by omega, by omega⟩, ?_⟩
          refine ⟨_, st _ _ h6, sl_lt (by rw [List.length_map]; unfold stpL; rw [List.length_map, List.length_range]; have := (rr_len r h14).2; omega), same_at (s6.trans st) hD, ?_⟩
          rw [upd_same]
          unfold stpL
          rw [List.range_succ, List.map_append, List.map_append]
          show _ = some (HO.lst (_ ++ [V.int (sg * q.2.getD j 0 * (ordL r / r.getD j 0))]))
          rw [ex, ey']
        · rintro H6 ⟨s6, h6⟩
          rw [List.length_map, qin.1] at h6
          refine ⟨_, _, rfl, ?_⟩
          have nD4 : H4 D = none := s5.free hD
          have g6 : H6 S = some (.lst ((tsGo r (ordL r) sg q.2 (levT ns) 0).map V.int)) := s6 _ _ g5
          have s46 : Same H4 H6 := s5.trans s6
          clear g5 hH5
          refine ⟨_, rfl, _, rfl, pl0, aw, rf kp, us, rfl, SqL.of (s46 _ _ hpl4), (s4.trans s46).tup haw, ?_⟩
          have hul : us.length = (rf kp).length := by rw [hu, lns, hkl]
          refine for_it (walk_zipM (K := K) (a := pl0) (b := aw) (xs := rf kp) (ys := us) hul) (fun m σ H7 => ∃ u9 u10 u16 u17 u18 u19 u20 u21, σ = [some (.ref ar), some (.ref rg), some (.ref aw), some (.int sg), some (.int ov), some (.int (ordL r)), some (.int (levB ns)), some (.ref pl0), some (.ref F), u9, u10, some (.ref q.1), some (.ref S), some (.ref D), none, none, u16, u17, u18, u19, u20, u21, none, none] ∧ Same H4 H7 ∧ H7 S = some (.lst ((tsGo r (ordL r) sg q.2 (levT ns) m).map V.int)) ∧ H7 D = some (.lst ((stpL r (ordL r) sg q.2 r.length).map V.int)))
            ⟨u9, u10, u16, u17, u18, u19, u20, u21, rfl, s46, g6, h6⟩ (fun m σ H7 _ ⟨_, _, _, _, _, _, _, _, _, z, _⟩ => ⟨SqL.of (z _ _ hpl4), (s4.trans z).tup haw⟩) ?_ ?_
          · rintro m v σ H7 H8 hm ⟨u9', u10', u16', u17', u18', u19', u20', u21', rfl, s7, g7, h7⟩ ⟨Tt, c5, y5, rfl, hT, rfl, ec, ey⟩
            obtain ⟨qq, rfl, hqq⟩ := getR ec
            obtain ⟨n, hn, p, t, rfl, hp, ht⟩ := hN.get ey
            have hqq2 : (placesL r)[m]? = some qq.2 := by rw [← hk2, List.getElem?_map, hqq]; rfl
            have qqin := rr_in r h14 qq.2 (List.mem_of_getElem? hqq2)
            have bn := ro.item n (List.mem_of_getElem? hn)
            have st : Same H7 (upd H7 Tt (.tup [.ref qq.1, .ref p])) := same_upd hT
            have s8 := s7.trans st
            have g8 := st _ _ g7
            have h8 := st _ _ h7
            have tqq := s8.tup (tk4 qq (List.mem_of_getElem? hqq))
            have hp8 := (s4.trans s8).tup hp
            have ht8 := (s4.trans s8).tup ht
            have gT : SqT K (upd H7 Tt (.tup [.ref qq.1, .ref p])) Tt [.ref qq.1, .ref p] := SqT.of upd_same
            refine ⟨Tt, _, rfl, gT, rfl, _, _, rfl, _, _, rfl, p, _, rfl, hp8, rfl, _, _, rfl, _, _, rfl, rfl, rfl, ?_⟩
            clear gT
            generalize upd H7 Tt (.tup [.ref qq.1, .ref p]) = H8 at st s8 g8 h8 tqq hp8 ht8
            refine ⟨_, rfl, _, rfl, qq.1, D, qq.2.map V.int, (stpL r (ordL r) sg q.2 r.length).map V.int, rfl, tqq, SqL.of h8, fun D2 hD2 => ?_⟩
            have nSD2 : S ≠ D2 := ne_of_none g8 hD2
            refine lc_it (walk_zipQ (K := K) (a := qq.1) (b := D) (xs := qq.2.map V.int) (ys := (stpL r (ordL r) sg q.2 r.length).map V.int) (by unfold stpL; simp [qqin.1])) (fun j H9 => Same H8 H9 ∧ H9 D2 = some (.lst ((prdL r (ordL r) sg qq.2 q.2 j).map V.int))) ⟨same_upd hD2, upd_same⟩ (fun j H9 _ ⟨z, _⟩ => ⟨z.tup tqq, SqL.of (z _ _ h8)⟩) ?_ ?_
            · rintro j zz H9 H10 hj ⟨s9, h9⟩ ⟨Tu, c6, y6, rfl, hTu, rfl, ec6, ey6⟩
              obtain ⟨x, rfl, hx⟩ := getI ec6
              obtain ⟨y, rfl, hy⟩ := getI ey6
              have su : Same H9 (upd H9 Tu (.tup [.int x, .int y])) := same_upd hTu
              have jl := ltL hx
              rw [qqin.1] at jl
              have xb := qqin.2 x (List.mem_of_getElem? hx)
              have ex : qq.2.getD j 0 = x := by rw [List.getD_eq_getElem?_getD, hx]; rfl
              have ey' : sg * q.2.getD j 0 * (ordL r / r.getD j 0) = y := by
                unfold stpL at hy
                rw [List.getElem?_map, List.getElem?_range jl] at hy
                exact Option.some.inj hy
              refine ⟨Tu, _, rfl, SqT.of upd_same, rfl, _, _, rfl, _, _, rfl, rfl, rfl, ?_⟩
              refine ⟨_, rfl, _, rfl, _, _, rfl, rfl, Or.inl ⟨by omega, by omega⟩, ?_⟩
              refine ⟨_, su _ _ h9, sl_lt (by rw [List.length_map]; unfold prdL; rw [List.length_map, List.length_range]; have := (rr_len r h14).2; omega), same_at (s9.trans su) hD2, ?_⟩
              rw [upd_same]
              unfold prdL
              rw [List.range_succ, List.map_append, List.map_append]
              show _ = some (HO.lst (_ ++ [V.int (qq.2.getD j 0 * (sg * q.2.getD j 0 * (ordL r / r.getD j 0)))]))
              rw [ex, ey']
            · rintro H9 ⟨s9, h9⟩
              rw [List.length_map, qqin.1] at h9
              have tb0 : 0 ≤ levB ns / n.2 := Int.ediv_nonneg (by omega) (by omega)
              have tb1 : levB ns / n.2 ≤ levB ns := Int.ediv_le_self _ (by omega)
              refine ⟨D2, _, rfl, SqL.of h9, Or.inl ⟨_, rfl, _, rfl, _, _, rfl, rfl, (by show (0 : Int) < ordL r; omega), _, rfl, _, rfl, _, _, rfl, rfl, ⟨by omega, by omega⟩, _, _, rfl, ?_⟩⟩
              have g9 := s9 _ _ g8
              have h9D := s9 _ _ h8
              have ht9 := s9.tup ht8
              have s49 := s8.trans s9
              have gl := tsGo_len r (ordL r) sg q.2 (levT ns) m
              have hnl := levT_get hn
              have epl : (placesL r).getD m [] = qq.2 := by rw [List.getD_eq_getElem?_getD, hqq2]; rfl
              refine ⟨_, rfl, t, n.1.map V.int, rfl, ht9, ?_⟩
              refine for_it (walk_enumT (K := K) (a := t) (xs := n.1.map V.int)) (fun kk σ H10 => ∃ u19 u20 u21, σ = [some (.ref ar), some (.ref rg), some (.ref aw), some (.int sg), some (.int ov), some (.int (ordL r)), some (.int (levB ns)), some (.ref pl0), some (.ref F), some (.ref t), some (.int n.2), some (.ref q.1), some (.ref S), some (.ref D), none, none, some (.ref qq.1), some (.int ((prdL r (ordL r) sg qq.2 q.2 r.length).sum % ordL r)), some (.int (levB ns / n.2)), u19, u20, u21, none, none] ∧ Same H4 H10 ∧ H10 S = some (.lst ((addN (ordL r) (sg * pairL r (ordL r) qq.2 q.2) ((levT ns).getD m []) (tsGo r (ordL r) sg q.2 (levT ns) m) kk).map V.int)) ∧ H10 D = some (.lst ((stpL r (ordL r) sg q.2 r.length).map V.int)))
                ⟨_, _, _, rfl, s49, g9, h9D⟩ (fun kk σ H10 _ ⟨_, _, _, _, z, _⟩ => (s4.trans z).tup ht) ?_ ?_
              · rintro kk v σ H10 H11 hkk ⟨w19, w20, w21, rfl, s10, g10, h10⟩ ⟨Tv, c7, y7, rfl, hTv, rfl, ec7, ey7⟩
                obtain ⟨top, rfl, htp⟩ := getI ey7
                obtain rfl := Option.some.inj ec7
                have sv : Same H10 (upd H10 Tv (.tup [.int (kk : Int), .int top])) := same_upd hTv
                have g11 := sv _ _ g10
                have al := addN_len (ordL r) (sg * pairL r (ordL r) qq.2 q.2) ((levT ns).getD m []) (tsGo r (ordL r) sg q.2 (levT ns) m) kk
                have eit : ((levT ns).getD m []).getD kk 0 = top * (levB ns / n.2) := by
                  rw [hnl, getD_map (c := fun t => t * (levB ns / n.2)) (Int.zero_mul _), List.getD_eq_getElem?_getD, htp]
                  rfl
                have eat : ((prdL r (ordL r) sg qq.2 q.2 r.length).sum % ordL r + (kk : Int)) % ordL r = (sg * pairL r (ordL r) qq.2 q.2 + (kk : Int)) % ordL r := by
                  rw [prd_sum]
                  exact at_eq _ _ _ _
                have m0 := Int.emod_nonneg (sg * pairL r (ordL r) qq.2 q.2 + (kk : Int)) (show ordL r ≠ 0 by omega)
                have m1 := Int.emod_lt_of_pos (sg * pairL r (ordL r) qq.2 q.2 + (kk : Int)) (show 0 < ordL r by omega)
                obtain ⟨ix, hix⟩ := Int.eq_ofNat_of_zero_le m0
                refine ⟨Tv, _, rfl, SqT.of upd_same, rfl, _, _, rfl, _, _, rfl, rfl, ?_⟩
                refine ⟨_, rfl, rfl, _, rfl, ?_⟩
                refine ite2 (fun c => ?_) (fun c => ?_)
                · have tp : atI ((addN (ordL r) (sg * pairL r (ordL r) qq.2 q.2) ((levT ns).getD m []) (tsGo r (ordL r) sg q.2 (levT ns) m) kk).map V.int) (((prdL r (ordL r) sg qq.2 q.2 r.length).sum % ordL r + (kk : Int)) % ordL r) = some (V.int ((addN (ordL r) (sg * pairL r (ordL r) qq.2 q.2) ((levT ns).getD m []) (tsGo r (ordL r) sg q.2 (levT ns) m) kk).getD ix 0)) := by
                    rw [eat, hix]
                    exact atI_nat (getD_of (by rw [al, gl]; omega))
                  refine ⟨_, rfl, _, rfl, _, _, rfl, rfl, Or.inl ⟨_, rfl, _, rfl, _, _, rfl, rfl, (by show (0 : Int) < ordL r; omega), ?_⟩⟩
                  refine ⟨_, rfl, _, rfl, S, _, _, _, rfl, rfl, SqL.of g11, tp, _, rfl, _, rfl, _, _, rfl, rfl, Or.inr ⟨by omega, by omega⟩, _, _, rfl, rfl, _, rfl, _, rfl, S, _, _, ix, rfl, rfl, g11, ?_, ?_⟩
                  · rw [eat, hix, List.length_map, al, gl]
                    exact ixN_nat (by omega)
                  · refine ⟨_, _, _, rfl, same_at (s10.trans sv) nS4, ?_, ?_⟩
                    · rw [upd_same, ← List.map_set]
                      show _ = some (HO.lst ((stepT (ordL r) (addN (ordL r) (sg * pairL r (ordL r) qq.2 q.2) ((levT ns).getD m []) (tsGo r (ordL r) sg q.2 (levT ns) m) kk) (sg * pairL r (ordL r) qq.2 q.2 + (kk : Int)) (((levT ns).getD m []).getD kk 0)).map V.int))
                      unfold stepT
                      rw [eit, hix, Int.toNat_natCast]
                    · rw [upd_ne hSD.symm]
                      exact sv _ _ h10
                · have c1 : top = 0 := by
                    by_cases z : top = 0
                    · exact z
                    · exact absurd (by simp [z]) c
                  refine ⟨_, _, _, rfl, s10.trans sv, ?_, sv _ _ h10⟩
                  rw [g11]
                  show _ = some (HO.lst ((stepT (ordL r) (addN (ordL r) (sg * pairL r (ordL r) qq.2 q.2) ((levT ns).getD m []) (tsGo r (ordL r) sg q.2 (levT ns) m) kk) (sg * pairL r (ordL r) qq.2 q.2 + (kk : Int)) (((levT ns).getD m []).getD kk 0)).map V.int))
                  rw [eit, c1, Int.zero_mul, stepT_zero (by omega) (by rw [al, gl])]
              · rintro σ H10 ⟨w19, w20, w21, rfl, s10, g10, h10⟩
                refine ⟨_, _, _, _, _, _, _, _, rfl, s10, ?_, h10⟩
                rw [g10, List.length_map]
                show _ = some (HO.lst ((addN (ordL r) (sg * pairL r (ordL r) ((placesL r).getD m []) q.2) ((levT ns).getD m []) (tsGo r (ordL r) sg q.2 (levT ns) m) ((levT ns).getD m []).length).map V.int))
                rw [epl, hnl, List.length_map]
          · rintro σ H7 ⟨u9', u10', u16', u17', u18', u19', u20', u21', rfl, s7, g7, h7⟩
            have ekl : (rf kp).length = (levT ns).length := by rw [levT_len, lns, hkl]
            rw [ekl] at g7
            have gl := tsGo_len r (ordL r) sg q.2 (levT ns) (levT ns).length
            have q1 : 1 * 1 ≤ levB ns * ov := Int.mul_le_mul bB.1 ov1 (by decide) (by omega)
            have q2 : levB ns * ov ≤ 1000 * 16 := Int.mul_le_mul bB.2 ov2 (by omega) (by decide)
            have hF7 := s7 _ _ hF4
            refine ⟨_, rfl, Or.inl ⟨rfl, _, SqL.of hF7⟩, _, rfl, _, rfl, _, rfl, _, rfl, _, _, rfl, rfl, Or.inl ⟨by omega, by omega⟩, ?_⟩
            refine ⟨rg, S, _, ordL r, levB ns * ov, rfl, he, (s4.trans s7).seq hRg, .inl (SqL.of g7), by rw [gl]; omega, by omega, by omega, fun v' H8 s8 hv' => ?_⟩
            have hF8 := s8 _ _ hF7
            have hvl : vs.length ≤ 16 := by
              have := hV.1
              rw [List.length_take] at this
              unfold lvL at this
              rw [List.length_map] at this
              omega
            refine ⟨F, _, _, rfl, rfl, hF8, sl_lt (by omega), ?_⟩
            have nF8 : H F = none := nF
            refine ⟨_, _, _, _, _, _, _, _, _, _, _, rfl, same_at ((s4.trans s7).trans s8) nF, ?_, ?_, vs ++ [v'], upd_same, ?_⟩
            · rw [upd_ne hFpl.symm]
              exact (s7.trans s8) _ _ hpl4
            · exact tl_at ((s7.trans s8).tl tk4) hF8
            · have e9 : (lvL r ns sg ov).take (i + 1) = (lvL r ns sg ov).take i ++ [lowL (tsL r sg q.2 (levT ns)) (levB ns * ov)] := by
                refine takeS ?_
                unfold lvL
                rw [List.getElem?_map, hq2]
                rfl
              rw [e9]
              have nv : Nums K (upd H8 F (.lst (vs ++ [v']))) vs ((lvL r ns sg ov).take i) := ⟨hV.1, fun a b c d1 d2 => num_at ((s7.trans s8).num (hV.2 a b c d1 d2)) hF8⟩
              exact nv.snoc (num_at hv' hF8)
      · rintro σ H4 ⟨u9, u10, u11, u12, u13, u16, u17, u18, u19, u20, u21, rfl, s4, hpl4, tk4, vs, hF4, hV⟩
        have ell : (lvL r ns sg ov).length = (rf kp).length := by unfold lvL; rw [List.length_map, hkl]
        rw [← ell, List.take_length] at hV
        refine ⟨_, rfl, F, _, rfl, .inl ⟨SqL.of hF4, fun t ht => ?_⟩⟩
        have st : Same H4 (upd H4 t (.tup vs)) := same_upd ht
        exact k _ _ (s4.trans st) ⟨t, vs, rfl, SqT.of upd_same, st.nums hV⟩
end
end K08

/-! The law's rows. -/
namespace K08
open PySem PySem.Spec PyProof.Rows L2
theorem low_one (t : List Int) : lowL t 1 = (t, 1) := by
  have g := lowC_dvd t 1
  have p := lowC_pos t 1 (Int.le_refl _)
  have e : lowC t 1 = 1 := by
    have := Int.le_of_dvd (by decide) g.1
    omega
  unfold lowL
  rw [e]
  simp
theorem red_whole {dv : List Int} (hd : 2 ≤ dv.length) (x : Int) : redL [x] dv = x :: List.replicate (dv.length - 2) 0 := by
  refine ext_getD (by rw [redL_len' (by omega)]; simp; omega) fun j hj => ?_
  rw [redL_len' (by omega)] at hj
  rw [red_ph (by omega) hj, ph_low _ _ (by simp; omega)]
  cases j with
  | zero => rfl
  | succ j =>
    rw [List.getD_eq_getElem?_getD, List.getD_eq_getElem?_getD]
    simp [List.getElem?_replicate]
    split <;> rfl
theorem good_whole {e : Int} (he : e ∈ ER) {x : Int} (h1 : -3 ≤ x) (h2 : x ≤ 3) : GoodN e (lowL (redL [x] (polyL e)) 1) := by
  obtain ⟨m1, m2, m3, m4⟩ := er_mon e he
  refine good_low he (redL_len' (by omega)) (by decide) (by decide) fun t ht => ?_
  rw [red_whole m1] at ht
  rcases List.mem_cons.mp ht with rfl | z
  · exact ⟨h1, h2⟩
  · rw [(List.mem_replicate.mp z).2]
    decide
theorem Keeps.nums {d l : Addr} {K : PySem.W.Frag} {H H' : Hp} {vs : List V} {ns : List Num} (k : Keeps d l H H') (D : DeckAt d l H) (h : Nums K H vs ns) : Nums K H' vs ns := ⟨h.1, fun i v n e1 e2 => k.num D (h.2 i v n e1 e2)⟩
theorem nums_at {K : PySem.W.Frag} {H : Hp} {vs : List V} {ns : List Num} {D : Addr} {ys : List V} {o : HO} (h : Nums K H vs ns) (hD : H D = some (.lst ys)) : Nums K (upd H D o) vs ns := ⟨h.1, fun i v n e1 e2 => num_at (h.2 i v n e1 e2) hD⟩
theorem DeckAt.off {d l D : Addr} {H : Hp} {o : HO} (h : DeckAt d l H) (h1 : D ≠ d) (h2 : D ≠ l) : DeckAt d l (upd H D o) := by
  obtain ⟨n', m', j', e1, e2, e3⟩ := h
  exact ⟨n', m', j', by rw [upd_ne h1.symm]; exact e1, by rw [upd_ne h2.symm]; exact e2, e3⟩
section
variable {P : Program} {w : World} {K : PySem.W.Frag} {mg : Str → Option Value} {base : Heap} {f f1 f2 f3 f4 f5 : Addr} {fd fd1 fd2 fd3 fd4 fd5 : FuncData}
def spLRow (K : PySem.W.Frag) : Sp := fun vs H Q _ => ∃ (d l r : Addr) (e : Int) (n : Nat), vs = [.ref d, .ref r, .int (n : Int)] ∧ e ∈ ER ∧ n ≤ 16 ∧ DeckAt d l H ∧ RingAt l H r e ∧ ∀ v ns H', DeckAt d l H' → Keeps d l H H' → RowAt K H' v ns → ns.length = n → (∀ m ∈ ns, GoodN e m) → Q v H'
abbrev lwN : List Str := ["deck", "ring", "n", "way", "row", "at", "whole"]
theorem scLW : FnScope lwN ["deck", "ring", "n"] (defScope sLRow) := ⟨rfl, rfl, rfl, by decide +kernel, rfl, by decide +kernel, by decide +kernel⟩
theorem ok_lRow (F : FnP K "_law_row" sLRow f fd) (B : Bl mg) (F1 : FnP K "_law_draw" sDraw f1 fd1) (g1 : mg "_law_draw" = some (.ref f1)) (G1 : FnOk P w K mg base CX0 1 f1 fd1 ["deck", "many"] spDraw) (F2 : FnP K "_law_made" sLMade f2 fd2) (g2 : mg "_law_made" = some (.ref f2)) (G2 : FnOk P w K mg base CX0 2 f2 fd2 ["ring", "sums", "bottom"] (spLMade K))
    (F3 : FnP K "_law_number" sLNumber f3 fd3) (g3 : mg "_law_number" = some (.ref f3)) (G3 : FnOk P w K mg base CX0 3 f3 fd3 ["deck", "ring", "size"] (spLNumber K)) : FnOk P w K mg base CX0 4 f fd ["deck", "ring", "n"] (spLRow K) := by
  have b1 : Binds K fd1 ["deck", "many"] [] := F1.bindsN fun _ _ _ _ _ _ us hl => match us, hl with | [_, _], _ => rfl
  have b2 : Binds K fd2 ["ring", "sums", "bottom"] [] := F2.bindsN fun _ _ _ _ _ _ us hl => match us, hl with | [_, _, _], _ => rfl
  have b3 : Binds K fd3 ["deck", "ring", "size"] [] := F3.bindsN fun _ _ _ _ _ _ us hl => match us, hl with | [_, _, _], _ => rfl
  refine F.ok scLW (fun vs H Q E h => ?_) (fun cdv A outer s H vs Q E hr h => ?_)
  · obtain ⟨d, l, r, e, n, rfl, _⟩ := h
    rfl
  · obtain ⟨d, l, r, e, n, rfl, he, n16, D, hRg, k⟩ := h
    refine ⟨_, PSs.nox (pss_cons (ps_par (i := 3) (j := 4) rfl scLW.nd rfl rfl (by decide) rfl rfl (pa_cons (pe_call G1 (hr.mono (by decide)) rfl g1 F1.kp b1 .nil pass0 (pa_cons (pv 0) (pa_cons pe_int pa_nil))) (pa_cons (pe_lst pa_nil) pa_nil)) rfl)
      (pss_cons (ps_for PassesOwn.never rfl (pi_range1 rfl (B "range" (by decide +kernel)) (pa_cons (pv 2) pa_nil)) (pg_name (i := 5) scLW.nd rfl (Or.inl rfl))
        (pss_one (ps_if (PW.pt (pw_or (pt_cmpR op_eq (pv 3) pe_int (nomark _)) (pw_or1 (PW.pt (pw_and (pt_cmpR op_eq (pv 3) pe_int (nomark _)) (pw_and1 (pt_cmpR op_eq (pe_call G1 (hr.mono (by decide)) rfl g1 F1.kp b1 .nil pass0 (pa_cons (pv 0) (pa_cons pe_int pa_nil))) pe_int (nomark _))))))))
          (pss_one (ps_expr (pe_bm PySem.F.plainAttrs_list PySem.F.slot_list_append PySem.F.type_list_append mt_append (pv 4) (pa_cons (pe_call G3 hr rfl g3 F3.kp b3 .nil pass0 (pa_cons (pv 0) (pa_cons (pv 1) (pa_cons pe_int pa_nil)))) pa_nil))))
          (pss_cons (ps_set (i := 6) scLW.nd rfl (Or.inl rfl) (pe_ifExp (PW.pt (pw_or (pt_cmpR op_gt (pv 3) pe_int (nomark _)) (pw_or1 (pt_cmpR op_eq (pe_call G1 (hr.mono (by decide)) rfl g1 F1.kp b1 .nil pass0 (pa_cons (pv 0) (pa_cons pe_int pa_nil))) pe_int (nomark _))))) (pe_op op_sub (pe_call G1 (hr.mono (by decide)) rfl g1 F1.kp b1 .nil pass0 (pa_cons (pv 0) (pa_cons pe_int pa_nil))) pe_int) pe_int))
          (pss_one (ps_expr (pe_bm PySem.F.plainAttrs_list PySem.F.slot_list_append PySem.F.type_list_append mt_append (pv 4) (pa_cons (pe_call G2 (hr.mono (by decide)) rfl g2 F2.kp b2 .nil pass0 (pa_cons (pv 1) (pa_cons (pe_lst (pa_cons (pv 6) pa_nil)) (pa_cons pe_int pa_nil)))) pa_nil))))))))
      (pss_one (ps_ret (pe_callTy call_tuple_of (by rfl) (B "tuple" (by decide +kernel)) (by decide +kernel) (pa_cons (pv 4) pa_nil)))))), ?_⟩
    refine ⟨_, rfl, d, l, 5, rfl, D, by decide, by decide, fun wy H1 w0 w1 D1 k1 => ⟨by decide, fun R hR => ⟨_, _, rfl, ?_⟩⟩⟩
    obtain ⟨⟨mm, jj, hd1⟩, ns1, hl1⟩ := deck_ref D1
    have Rd : R ≠ d := (ne_of_none hd1 hR).symm
    have Rl : R ≠ l := (ne_of_none hl1 hR).symm
    have kR : Keeps d l H1 (upd H1 R (.lst [])) := .new hR
    refine ⟨_, rfl, (n : Int), rfl, by omega, by omega, ?_⟩
    rw [Int.toNat_natCast]
    refine for_range (lo := 0) (n := n) (fun i σ H2 => ∃ u5 u6, σ = [some (.ref d), some (.ref r), some (.int (n : Int)), some (.int wy), some (.ref R), u5, u6] ∧ DeckAt d l H2 ∧ Keeps d l H1 H2 ∧ ∃ vs ns, H2 R = some (.lst vs) ∧ Nums K H2 vs ns ∧ ns.length = i ∧ ∀ m ∈ ns, GoodN e m)
      ⟨none, none, rfl, D1.new hR, kR, [], [], upd_same, nums_nil, rfl, fun m hm => absurd hm (by simp)⟩ ?_ ?_
    · rintro i σ H2 hi ⟨u5, u6, rfl, D2, k2, vs, ns, h2, hN, nl, gd⟩
      have r2 := k2.ring D1 (k1.ring D hRg)
      have more : ∀ (H3 : Hp) (v : V) (m : Num) (u5 u6 : Option V), DeckAt d l H3 → Keeps d l H2 H3 → NumAt K H3 v m → GoodN e m → ∃ v5 v6, [some (V.ref d), some (.ref r), some (.int (n : Int)), some (.int wy), some (.ref R), u5, u6] = [some (.ref d), some (.ref r), some (.int (n : Int)), some (.int wy), some (.ref R), v5, v6] ∧ DeckAt d l (upd H3 R (.lst (vs ++ [v]))) ∧ Keeps d l H1 (upd H3 R (.lst (vs ++ [v]))) ∧ ∃ vs' ns, upd H3 R (.lst (vs ++ [v])) R = some (.lst vs') ∧ Nums K (upd H3 R (.lst (vs ++ [v]))) vs' ns ∧ ns.length = i + 1 ∧ ∀ m ∈ ns, GoodN e m := by
        intro H3 v m u5 u6 D3 k3 hv gm
        have h3 := k3 _ _ h2 Rd Rl
        refine ⟨u5, u6, rfl, D3.off Rd Rl, fun b o eb nb nl' => ?_, vs ++ [v], ns ++ [m], upd_same, ?_, by rw [List.length_append, nl]; rfl, fun x hx => ?_⟩
        · rw [upd_ne (ne_of_none eb hR)]
          exact (k2.trans k3) b o eb nb nl'
        · exact (nums_at (k3.nums D2 hN) h3).snoc (num_at hv h3)
        · rcases List.mem_append.mp hx with z | z
          · exact gd x z
          · rw [List.mem_singleton.mp z]
            exact gm
      have vl : vs.length < sizeLine := sl_lt (by rw [hN.1]; omega)
      have doA : ∀ (D' : Ends) (H3 : Hp) (u5 u6 : Option V), DeckAt d l H3 → Keeps d l H2 H3 → (∀ (H4 : Hp) (v : V) (m : Num), DeckAt d l H4 → Keeps d l H2 H4 → NumAt K H4 v m → GoodN e m → D'.nx [some (V.ref d), some (.ref r), some (.int (n : Int)), some (.int wy), some (.ref R), u5, u6] (upd H4 R (.lst (vs ++ [v])))) →
          tDrop (tBM K "list" rAppend (tVar 4) (tCons (tCall (spLNumber K) [] E0 (tCons (tVar 0) (tCons (tVar 1) (tCons (tC (.int 3)) tNil)))) tNil)) D' [some (V.ref d), some (.ref r), some (.int (n : Int)), some (.int wy), some (.ref R), u5, u6] H3 := by
        intro D' H3 u5 u6 D3 k3 fin
        have h3 := k3 _ _ h2 Rd Rl
        refine ⟨_, rfl, Or.inl ⟨rfl, _, SqL.of h3⟩, _, rfl, _, rfl, d, l, r, e, rfl, he, D3, k3.ring D2 r2, fun v m H4 D4 k4 hv gm => ?_⟩
        exact ⟨R, vs, v, rfl, rfl, k4 _ _ h3 Rd Rl, vl, fin H4 v m D4 (k3.trans k4) hv gm⟩
      have doB : ∀ (D' : Ends) (H3 : Hp) (u5 u6 : Option V) (x : Int), -3 ≤ x → x ≤ 3 → DeckAt d l H3 → Keeps d l H2 H3 → (∀ (H4 : Hp) (v : V) (m : Num), DeckAt d l H4 → Keeps d l H2 H4 → NumAt K H4 v m → GoodN e m → D'.nx [some (V.ref d), some (.ref r), some (.int (n : Int)), some (.int wy), some (.ref R), u5, some (.int x)] (upd H4 R (.lst (vs ++ [v])))) →
          tDrop (tBM K "list" rAppend (tVar 4) (tCons (tCall (spLMade K) [] E0 (tCons (tVar 1) (tCons (tLst (tCons (tVar 6) tNil)) (tCons (tC (.int 1)) tNil)))) tNil)) D' [some (V.ref d), some (.ref r), some (.int (n : Int)), some (.int wy), some (.ref R), u5, some (.int x)] H3 := by
        intro D' H3 u5 u6 x x0 x1 D3 k3 fin
        have h3 := k3 _ _ h2 Rd Rl
        have r3 := k3.ring D2 r2
        refine ⟨_, rfl, Or.inl ⟨rfl, _, SqL.of h3⟩, _, rfl, _, rfl, by show 1 ≤ sizeLine; decide, fun z hz => ?_⟩
        have sz : Same H3 (upd H3 z (.lst [.int x])) := same_upd hz
        refine ⟨r, z, [x], e, 1, rfl, he, SqL.of (sz _ _ r3.1), .inl (SqL.of upd_same), by show 1 ≤ 100; decide, by decide, by decide, fun v H4 s4 hv => ?_⟩
        have s34 := sz.trans s4
        exact ⟨R, vs, v, rfl, rfl, s34 _ _ h3, vl, fin H4 v _ (s34.deck D3) (k3.trans (Same.keeps s34)) hv (good_whole he x0 x1)⟩
      have doC : ∀ (D' : Ends) (H3 : Hp) (u5 u6 : Option V), DeckAt d l H3 → Keeps d l H2 H3 → (∀ (H4 : Hp) (v : V) (m : Num) (u6 : Option V), DeckAt d l H4 → Keeps d l H2 H4 → NumAt K H4 v m → GoodN e m → D'.nx [some (V.ref d), some (.ref r), some (.int (n : Int)), some (.int wy), some (.ref R), u5, u6] (upd H4 R (.lst (vs ++ [v])))) →
          tSeq (tAsg (tIf (tOr (tTest (tOp rGtI (tVar 3) (tC (.int 2)))) (tTest (tOp rEq (tCall spDraw [] E0 (tCons (tVar 0) (tCons (tC (.int 3)) tNil))) (tC (.int 0))))) (tOp rMinus (tCall spDraw [] E0 (tCons (tVar 0) (tCons (tC (.int 7)) tNil))) (tC (.int 3))) (tC (.int 0))) (gName 6))
            (tDrop (tBM K "list" rAppend (tVar 4) (tCons (tCall (spLMade K) [] E0 (tCons (tVar 1) (tCons (tLst (tCons (tVar 6) tNil)) (tCons (tC (.int 1)) tNil)))) tNil))) D' [some (V.ref d), some (.ref r), some (.int (n : Int)), some (.int wy), some (.ref R), u5, u6] H3 := by
        intro D' H3 u5 u6 D3 k3 fin
        have dr : ∀ (H4 : Hp), DeckAt d l H4 → Keeps d l H2 H4 → ∀ Q2 : VK, (∀ (x : Int) (H5 : Hp), -3 ≤ x → x ≤ 3 → DeckAt d l H5 → Keeps d l H2 H5 → Q2 (.int x) H5) → tOp rMinus (tCall spDraw [] E0 (tCons (tVar 0) (tCons (tC (.int 7)) tNil))) (tC (.int 3)) [some (V.ref d), some (.ref r), some (.int (n : Int)), some (.int wy), some (.ref R), u5, u6] H4 Q2 := by
          intro H4 D4 k4 Q2 q
          exact ⟨_, rfl, d, l, 7, rfl, D4, by decide, by decide, fun x H5 x0 x1 D5 k5 => ⟨_, _, rfl, rfl, q _ H5 (by omega) (by omega) D5 (k4.trans k5)⟩⟩
        have fx : ∀ (x : Int) (H5 : Hp), -3 ≤ x → x ≤ 3 → DeckAt d l H5 → Keeps d l H2 H5 → tDrop (tBM K "list" rAppend (tVar 4) (tCons (tCall (spLMade K) [] E0 (tCons (tVar 1) (tCons (tLst (tCons (tVar 6) tNil)) (tCons (tC (.int 1)) tNil)))) tNil)) D' [some (V.ref d), some (.ref r), some (.int (n : Int)), some (.int wy), some (.ref R), u5, some (.int x)] H5 :=
          fun x H5 x0 x1 D5 k5 => doB D' H5 u5 none x x0 x1 D5 k5 fun H4 v m D4 k4 hv gm => fin H4 v m _ D4 k4 hv gm
        refine seq_asg ?_
        refine ⟨_, rfl, _, _, rfl, rfl, _, rfl, ?_⟩
        refine ite2 (fun _ => ?_) (fun _ => ?_)
        · exact dr H3 D3 k3 _ fun x H5 x0 x1 D5 k5 => fx x H5 x0 x1 D5 k5
        · refine ⟨_, rfl, d, l, 3, rfl, D3, by decide, by decide, fun x H4 x0 x1 D4 k4 => ⟨rfl, _, rfl, ?_⟩⟩
          refine ite2 (fun _ => ?_) (fun _ => ?_)
          · exact dr H4 D4 (k3.trans k4) _ fun x H5 x0 x1 D5 k5 => fx x H5 x0 x1 D5 k5
          · exact fx 0 H4 (by decide) (by decide) D4 (k3.trans k4)
      refine ⟨_, rfl, rfl, _, rfl, ?_⟩
      refine ite2 (fun _ => ?_) (fun _ => ?_)
      · exact doA _ H2 _ _ D2 .refl fun H4 v m D4 k4 hv gm => more H4 v m _ _ D4 k4 hv gm
      · refine ⟨_, rfl, rfl, _, rfl, ?_⟩
        refine ite2 (fun _ => ?_) (fun _ => ?_)
        · refine ⟨_, rfl, d, l, 2, rfl, D2, by decide, by decide, fun x H3 x0 x1 D3 k3 => ⟨rfl, _, rfl, ?_⟩⟩
          refine ite2 (fun _ => ?_) (fun _ => ?_)
          · exact doA _ H3 _ _ D3 k3 fun H4 v m D4 k4 hv gm => more H4 v m _ _ D4 k4 hv gm
          · exact doC _ H3 _ _ D3 k3 fun H4 v m u6 D4 k4 hv gm => more H4 v m _ u6 D4 k4 hv gm
        · refine iteF ?_
          exact doC _ H2 _ _ D2 .refl fun H4 v m u6 D4 k4 hv gm => more H4 v m _ u6 D4 k4 hv gm
    · rintro σ H2 ⟨u5, u6, rfl, D2, k2, vs, ns, h2, hN, nl, gd⟩
      refine ⟨_, rfl, R, _, rfl, .inl ⟨SqL.of h2, fun t ht => ?_⟩⟩
      have st : Same H2 (upd H2 t (.tup vs)) := same_upd ht
      exact k _ ns _ (st.deck D2) ((k1.trans k2).trans (Same.keeps st)) ⟨t, vs, rfl, SqT.of upd_same, st.nums hN⟩ nl gd
end
end K08

/-! The law's whole_of. -/
namespace K08
open PySem PySem.Spec PyProof.Rows L2
def onesL (ns : List Num) : List Int := (ns.filter notWh).map fun _ => 1
theorem ones_nil (ns : List Num) : decide (onesL ns = []) = !ns.any notWh := by
  unfold onesL
  rw [Bool.eq_iff_iff]
  simp [List.filter_eq_nil_iff]
section
variable {P : Program} {w : World} {K : PySem.W.Frag} {mg : Str → Option Value} {base : Heap} {f f1 f2 f3 f4 f5 : Addr} {fd fd1 fd2 fd3 fd4 fd5 : FuncData}
def spLX (K : PySem.W.Frag) : Sp := fun vs H Q _ => ∃ (u : V) (ns : List Num), vs = [u] ∧ RowAt K H u ns ∧ ns.length ≤ 1000 ∧ (∀ n ∈ ns, 1 ≤ n.1.length ∧ n.1.length ≤ 1000) ∧ (ns.any notWh = true → ∀ H', Same H H' → Q .non H') ∧ (ns.any notWh = false → ∀ t H', Same H H' → H' t = some (.tup ((ns.map fun n => n.1.getD 0 0).map V.int)) → Q (.ref t) H')
abbrev lxN : List Str := ["row", "tops", "bottom", "x"]
def lxSc : Scope := { kind := .function, names := [(".0", .local), ("tops", .local), ("bottom", .local)], isGenerator := false, isCoroutine := false }
theorem scLX : FnScope lxN ["row"] (defScope sLWholeOf) := ⟨rfl, rfl, rfl, by decide +kernel, rfl, by decide +kernel, by decide +kernel⟩
theorem ok_lX (F : FnP K "_law_whole_of" sLWholeOf f fd) (B : Bl mg) : FnOk P w K mg base CX0 1 f fd ["row"] (spLX K) := by
  refine F.ok scLX (fun vs H Q E h => ?_) (fun cdv A outer s H vs Q E hr h => ?_)
  · obtain ⟨u, ns, rfl, _⟩ := h
    rfl
  · obtain ⟨u, ns, rfl, hR, l1, l2, k1, k2⟩ := h
    refine ⟨_, PSs.nox (pss_cons (ps_if (pt_cmpR (op_neD (hu65 hr))
          (pe_lc (own := [("tops", 1), ("bottom", 2)]) (g := gTup K 2 (gCons (gName 1) (gCons (gName 2) gNil))) (tt := tOr (tTest (tOp rNe (tVar 2) (tC (.int 1)))) (tTest (tOp (rNeD K) (tLc (iTup K (tSl (rSlT K) (tVar 1) (tPart (tC (.int 1))) tNoPart)) (gName 3) (tTest (tOp rNe (tVar 3) (tC (.int 0)))) (tVar 3) [3]) (tLst tNil)))) (te := tC (.int 1)) rfl scLX.nd (pi_tup (pv 0)) (blkOk_by (own := [("tops", 1), ("bottom", 2)]) (N := lxN) (sc := defScope sLWholeOf) (by decide +kernel))
            (fun _ _ _ _ _ => pg_tup rfl (pgs_cons (pg_name (i := 1) scLX.nd rfl (Or.inl rfl)) (pgs_cons (pg_name (i := 2) scLX.nd rfl (Or.inl rfl)) pgs_nil)))
            (fun _ _ _ _ _ => pts_one (PW.pt (pw_or (pt_cmpR op_ne (pv 2) pe_int (nomark _)) (pw_or1 (pt_cmpR (op_neD (hu65 hr))
              (pe_lc (own := [("x", 3)]) (g := gName 3) (tt := tTest (tOp rNe (tVar 3) (tC (.int 0)))) (te := tVar 3) rfl scLX.nd (pi_tup (pe_slice sl_tup (pv 1) (po_some pe_int) po_none)) (blkOk_by (own := [("x", 3)]) (N := lxN) (sc := relS lxSc (defScope sLWholeOf)) (by decide +kernel))
                (fun _ _ _ _ _ => pg_name (i := 3) scLX.nd rfl (Or.inl rfl)) (fun _ _ _ _ _ => pts_one (pt_cmpR op_ne (pv 3) pe_int (nomark _))) (fun _ _ _ _ _ => pv 3)) (pe_lst pa_nil) (nomark _))))))
            (fun _ _ _ _ _ => pe_int)) (pe_lst pa_nil) (nomark _)) (pss_one (ps_ret pe_non)) pss_nil)
      (pss_one (ps_ret (pe_callTy call_tuple_of (by rfl) (B "tuple" (by decide +kernel)) (by decide +kernel) (pa_cons
          (pe_lc (own := [("tops", 1), ("bottom", 2)]) (g := gTup K 2 (gCons (gName 1) (gCons (gName 2) gNil))) (tt := tYes) (te := tOp (rIxT K) (tVar 1) (tC (.int 0))) rfl scLX.nd (pi_tup (pv 0)) (blkOk_by (own := [("tops", 1), ("bottom", 2)]) (N := lxN) (sc := defScope sLWholeOf) (by decide +kernel))
            (fun _ _ _ _ _ => pg_tup rfl (pgs_cons (pg_name (i := 1) scLX.nd rfl (Or.inl rfl)) (pgs_cons (pg_name (i := 2) scLX.nd rfl (Or.inl rfl)) pgs_nil))) (fun _ _ _ _ _ => pts_nil)
            (fun _ _ _ _ _ => pe_ix ix_tup (pv 1) pe_int (fun _ _ => rfl))) pa_nil))))), ?_⟩
    obtain ⟨q, us, rfl, hq, hN⟩ := id hR
    have hul := hN.1
    refine ⟨_, rfl, q, rfl, ⟨_, hq⟩, fun D hD => ?_⟩
    refine lc_tup (K := K) (a := q) (xs := us) (fun i H2 => Same H H2 ∧ H2 D = some (.lst ((onesL (ns.take i)).map V.int))) ⟨same_upd hD, by rw [upd_same]; rfl⟩ (fun i H2 _ ⟨s2, _⟩ => s2.tup hq) ?_ ?_
    · rintro i y H2 hi ⟨s2, h2⟩
      obtain ⟨n, hn, p, t, rfl, hp, ht⟩ := hN.get hi
      have il := ltL hn
      have nl := l2 n (List.mem_of_getElem? hn)
      have fin : ∀ H3, Same H2 H3 → notWh n = true → ∃ acc, H3 D = some (.lst acc) ∧ acc.length < sizeLine ∧ Same H (upd H3 D (.lst (acc ++ [V.int 1]))) ∧ upd H3 D (.lst (acc ++ [V.int 1])) D = some (.lst ((onesL (ns.take (i + 1))).map V.int)) := fun H3 s3 e => by
        refine ⟨_, s3 _ _ h2, sl_lt ?_, same_at (s2.trans s3) hD, ?_⟩
        · rw [List.length_map]
          unfold onesL
          rw [List.length_map]
          exact Nat.le_trans (List.length_filter_le _ _) (by rw [List.length_take]; omega)
        · rw [upd_same, takeS hn]
          unfold onesL
          rw [List.filter_append, List.map_append, List.map_append]
          simp [e]
      have skip : ∀ H3, Same H2 H3 → notWh n = false → Same H H3 ∧ H3 D = some (.lst ((onesL (ns.take (i + 1))).map V.int)) := fun H3 s3 e => by
        refine ⟨s2.trans s3, ?_⟩
        rw [s3 _ _ h2, takeS hn]
        unfold onesL
        rw [List.filter_append]
        simp [e]
      refine ⟨p, _, rfl, s2.tup hp, rfl, _, _, rfl, _, _, rfl, rfl, rfl, _, rfl, rfl, _, rfl, ?_⟩
      refine ite2 (fun c => ?_) (fun c => ?_)
      · have e : notWh n = true := by
          unfold notWh
          have c' : ¬ n.2 = 1 := by simpa using c
          simp [c']
        exact fin H2 (Same.refl _) e
      · have c' : n.2 = 1 := by simpa using c
        have e : notWh n = someN (n.1.drop 1) := by
          unfold notWh
          simp [c']
        refine ⟨_, rfl, _, rfl, t, _, rfl, s2.tup ht, cut1_not (by omega), fun p2 hp2 => ?_⟩
        rw [cut1 (by omega)]
        have s3 : Same H2 (upd H2 p2 (.tup ((n.1.drop 1).map V.int))) := same_upd hp2
        have g3 : SqT K (upd H2 p2 (.tup ((n.1.drop 1).map V.int))) p2 ((n.1.drop 1).map V.int) := SqT.of upd_same
        generalize upd H2 p2 (.tup ((n.1.drop 1).map V.int)) = H3 at s3 g3
        refine ⟨p2, rfl, ⟨_, g3⟩, fun C hC => ?_⟩
        refine lc_tup (K := K) (a := p2) (xs := (n.1.drop 1).map V.int) (fun j H4 => Same H3 H4 ∧ H4 C = some (.lst ((nzL ((n.1.drop 1).take j)).map V.int))) ⟨same_upd hC, by rw [upd_same]; rfl⟩ (fun j H4 _ ⟨z, _⟩ => z.tup g3) ?_ ?_
        · rintro j y H4 hj ⟨s4, h4⟩
          obtain ⟨x, rfl, hx⟩ := getI hj
          have jl := ltL hx
          rw [List.length_drop] at jl
          refine ⟨rfl, _, rfl, rfl, _, rfl, ?_⟩
          refine ite2 (fun c => ?_) (fun c => ?_)
          · have c1 : ¬ x = 0 := by simpa using c
            refine ⟨_, rfl, _, h4, sl_lt ?_, same_at s4 hC, ?_⟩
            · rw [List.length_map]
              unfold nzL
              exact Nat.le_trans (List.length_filter_le _ _) (by rw [List.length_take]; omega)
            · rw [upd_same, takeS hx]
              unfold nzL
              rw [List.filter_append, List.map_append]
              simp [c1]
          · have c1 : x = 0 := by simpa using c
            refine ⟨s4, ?_⟩
            rw [h4, takeS hx]
            unfold nzL
            rw [List.filter_append]
            simp [c1]
        · rintro H4 ⟨s4, h4⟩
          rw [List.length_map, List.take_length] at h4
          refine ⟨by decide, fun z hz => ?_⟩
          have sz : Same H4 (upd H4 z (.lst [])) := same_upd hz
          refine ⟨.list ((nzL (n.1.drop 1)).map PyData.int), .list [], .lst (SqL.of (sz _ _ h4)) (dp_ints _), .lst (SqL.of upd_same) .nil, shaped_ints _, shaped_ints [], _, rfl, ?_⟩
          rw [eqv_nil, nz_some, ← e]
          have sA := (s3.trans s4).trans sz
          refine ite2 (fun c => ?_) (fun c => ?_)
          · exact fin _ sA (by simpa using c)
          · exact skip _ sA (by simpa using c)
    · rintro H2 ⟨s2, h2⟩
      rw [hul, List.take_length] at h2
      refine ⟨by decide, fun z hz => ?_⟩
      have sz : Same H2 (upd H2 z (.lst [])) := same_upd hz
      refine ⟨.list ((onesL ns).map PyData.int), .list [], .lst (SqL.of (sz _ _ h2)) (dp_ints _), .lst (SqL.of upd_same) .nil, shaped_ints _, shaped_ints [], _, rfl, ?_⟩
      rw [eqv_nil, ones_nil]
      have s3 := s2.trans sz
      refine ite2 (fun c => ?_) (fun c => ?_)
      · exact k1 (by simpa using c) _ s3
      · have c' : ns.any notWh = false := by simpa using c
        generalize upd H2 z (.lst []) = H3 at s3
        refine ⟨_, rfl, q, rfl, ⟨_, s3.tup hq⟩, fun D2 hD2 => ?_⟩
        refine lc_tup (K := K) (a := q) (xs := us) (fun i H4 => Same H3 H4 ∧ H4 D2 = some (.lst (((ns.take i).map fun n => n.1.getD 0 0).map V.int))) ⟨same_upd hD2, by rw [upd_same]; rfl⟩ (fun i H4 _ ⟨s4, _⟩ => s4.tup (s3.tup hq)) ?_ ?_
        · rintro i y H4 hi ⟨s4, h4⟩
          obtain ⟨n, hn, p, t, rfl, hp, ht⟩ := hN.get hi
          have il := ltL hn
          have nl := l2 n (List.mem_of_getElem? hn)
          have s13 := s3.trans s4
          refine ⟨p, _, rfl, s13.tup hp, rfl, _, _, rfl, _, _, rfl, rfl, rfl, _, rfl, t, _, ((0 : Nat) : Int), _, rfl, rfl, s13.tup ht, atI_nat (j := 0) (getD_of (by omega)), ?_⟩
          refine ⟨_, h4, sl_lt (by rw [List.length_map, List.length_map, List.length_take]; omega), same_at s4 hD2, ?_⟩
          rw [upd_same, takeS hn, List.map_append, List.map_append]
          rfl
        · rintro H4 ⟨s4, h4⟩
          rw [hul, List.take_length] at h4
          refine ⟨D2, _, rfl, .inl ⟨SqL.of h4, fun t ht => ?_⟩⟩
          exact k2 c' t _ ((s3.trans s4).trans (same_upd ht)) upd_same
end
end K08

/-! repr of tuples of tuples of ints. -/
namespace K08
open PySem PySem.Spec PyProof.Rows L2
/-- can be shown -/
structure OkD (dp bl : Nat) (d : PyData) : Prop where
  sh : d.showable = true
  lv : d.leavesShort 200 = true
  dp : d.depth ≤ dp
  bl : d.bulk ≤ bl
  nd : d.hasDict = false
theorem OkD.le {dp bl dp' bl' : Nat} {d : PyData} (h : OkD dp bl d) (h1 : dp ≤ dp') (h2 : bl ≤ bl') : OkD dp' bl' d := ⟨h.sh, h.lv, Nat.le_trans h.dp h1, Nat.le_trans h.bl h2, h.nd⟩
theorem okd_int {i : Int} (h : i.natAbs < 2 ^ 150) : OkD 1 0 (.int i) := by
  have hl : i.natAbs.log2 < 150 := by
    by_cases h0 : i.natAbs = 0
    · rw [h0]; decide
    · exact (Nat.log2_lt h0).mpr h
  refine ⟨?_, ?_, ?_, ?_, rfl⟩
  · simp only [PyData.showable]
    exact decide_eq_true (by omega)
  · have e := int_text_length_le (a := i) (k := 150) (by decide) hl
    have e2 : (PyData.shown (.int i)).length = (Str.ofString (toString i)).length := rfl
    have e3 : (PyData.shown (.int i)).length ≤ 200 := by rw [e2, PySem.ofString_length]; omega
    show decide ((PyData.shown (.int i)).length ≤ 200) = true
    exact decide_eq_true e3
  · simp [PyData.depth]
  · simp [PyData.bulk]
theorem okd_non : OkD 1 0 .none := ⟨rfl, rfl, by simp [PyData.depth], by simp [PyData.bulk], rfl⟩
theorem okd_all {dp bl : Nat} : ∀ {ds : List PyData}, (∀ d ∈ ds, OkD dp bl d) → PyData.showableAll ds = true ∧ PyData.leavesShortAll 200 ds = true ∧ PyData.depthAll ds ≤ dp ∧ PyData.bulkAll ds ≤ ds.length * (bl + 1) ∧ PyData.hasDictAll ds = false
  | [], _ => ⟨rfl, rfl, by simp [PyData.depthAll], by simp [PyData.bulkAll], rfl⟩
  | d :: ds, h => by
    have hd := h d List.mem_cons_self
    have ih := okd_all (ds := ds) fun x hx => h x (List.mem_cons_of_mem _ hx)
    refine ⟨?_, ?_, ?_, ?_, ?_⟩
    · simp only [PyData.showableAll, hd.sh, ih.1, Bool.and_self]
    · simp only [PyData.leavesShortAll, hd.lv, ih.2.1, Bool.and_self]
    · simp only [PyData.depthAll]
      have := hd.dp
      have := ih.2.2.1
      omega
    · simp only [PyData.bulkAll, List.length_cons]
      have := hd.bl
      have := ih.2.2.2.1
      rw [Nat.add_mul]
      omega
    · simp only [PyData.hasDictAll, hd.nd, ih.2.2.2.2, Bool.or_self]
theorem okd_tup {dp bl n : Nat} {ds : List PyData} (h : ∀ d ∈ ds, OkD dp bl d) (hn : ds.length ≤ n) : OkD (dp + 1) (n * (bl + 1)) (.tuple ds) := by
  obtain ⟨h1, h2, h3, h4, h5⟩ := okd_all h
  refine ⟨?_, ?_, ?_, ?_, ?_⟩
  · simpa only [PyData.showable] using h1
  · simpa only [PyData.leavesShort] using h2
  · simp only [PyData.depth]
    omega
  · simp only [PyData.bulk]
    exact Nat.le_trans h4 (Nat.mul_le_mul_right _ hn)
  · simpa only [PyData.hasDict] using h5
def rRepr (K : PySem.W.Frag) : List V → Hp → VK → Prop := fun xs H Q => ∃ (v : V) (d : PyData), xs = [v] ∧ (∃ a, v = .ref a) ∧ Dp K H v d ∧ OkD 40 50000 d ∧ Q (.str d.shown) H
theorem call_repr {X : Cx} (hg : X.A.guards = some []) (hu : X.A.units + 64 < cLine) : CallR X (.builtin "repr") (rRepr X.K) := by
  intro pins s σ H xs us Q I r h
  obtain ⟨v, d, rfl, ⟨a, rfl⟩, hd, hs, q⟩ := h
  obtain ⟨u, rfl, ru⟩ := vals1 r
  cases (show u = Value.ref a from ru)
  obtain ⟨as, rd⟩ := Dp.reads I d _ _ hd (rfl : RelV (.ref a) (Value.ref a))
  have hz : d.shown.length ≤ sizeLine := by
    have := PyData.shown_le_bulk 200 (by decide) d hs.lv
    have e : (200 + 2) * d.bulk ≤ 202 * 50000 := Nat.mul_le_mul (Nat.le_refl _) hs.bl
    rw [sizeLine_eq]
    omega
  refine repr_of_reads' rd hs.sh (fun z => ?_) hg (by have := hs.dp; omega) (fun _ _ e => e) (fun h' t tk hk => ?_) hz
  · rw [hs.nd] at z
    cases z
  · exact ⟨.str _, H, I.kept hk, ⟨t, rfl⟩, q⟩
/-! ### data of rows -/
abbrev intsD (ns : List Int) : PyData := .tuple (ns.map PyData.int)
abbrev rowD (ns : List Num) : PyData := .tuple (ns.map numD)
abbrev plD (ps : List (List Int)) : PyData := .tuple (ps.map intsD)
/-- no int is great -/
def Bd (ns : List Num) : Prop := ∀ n ∈ ns, (∀ t ∈ n.1, t.natAbs < 2 ^ 150) ∧ n.2.natAbs < 2 ^ 150 ∧ n.1.length ≤ 16
theorem okd_ints {xs : List Int} {n : Nat} (h : ∀ x ∈ xs, x.natAbs < 2 ^ 150) (hn : xs.length ≤ n) : OkD 2 n (intsD xs) := by
  have := okd_tup (dp := 1) (bl := 0) (n := n) (ds := xs.map PyData.int) (fun d hd => by
    obtain ⟨x, hx, rfl⟩ := List.mem_map.mp hd
    exact okd_int (h x hx)) (by rw [List.length_map]; exact hn)
  exact this.le (Nat.le_refl _) (by omega)
theorem okd_num {n : Num} (h1 : ∀ t ∈ n.1, t.natAbs < 2 ^ 150) (h2 : n.2.natAbs < 2 ^ 150) (h3 : n.1.length ≤ 16) : OkD 3 34 (numD n) := by
  have := okd_tup (dp := 2) (bl := 16) (n := 2) (ds := [.tuple (n.1.map PyData.int), .int n.2]) (fun d hd => by
    rcases List.mem_cons.mp hd with rfl | hd
    · exact okd_ints h1 h3
    · rw [List.mem_singleton.mp hd]
      exact (okd_int h2).le (by decide) (by decide)) (Nat.le_refl _)
  exact this.le (Nat.le_refl _) (by decide)
theorem okd_row {ns : List Num} (h : Bd ns) (hl : ns.length ≤ 16) : OkD 4 560 (rowD ns) := by
  have := okd_tup (dp := 3) (bl := 34) (n := 16) (ds := ns.map numD) (fun d hd => by
    obtain ⟨n, hn, rfl⟩ := List.mem_map.mp hd
    exact okd_num (h n hn).1 (h n hn).2.1 (h n hn).2.2) (by rw [List.length_map]; exact hl)
  exact this.le (Nat.le_refl _) (by decide)
theorem okd_pl {ps : List (List Int)} (h : ∀ p ∈ ps, p.length ≤ 4 ∧ ∀ x ∈ p, 0 ≤ x ∧ x < 60) (hl : ps.length ≤ 16) : OkD 4 560 (plD ps) := by
  have := okd_tup (dp := 2) (bl := 4) (n := 16) (ds := ps.map intsD) (fun d hd => by
    obtain ⟨p, hp, rfl⟩ := List.mem_map.mp hd
    refine okd_ints (fun x hx => ?_) (h p hp).1
    have := (h p hp).2 x hx
    have e : x.natAbs < 60 := by omega
    exact Nat.lt_of_lt_of_le e (by decide)) (by rw [List.length_map]; exact hl)
  exact this.le (by decide) (by decide)
theorem okd_list {ds : List PyData} (h : ∀ d ∈ ds, OkD 4 560 d) (hl : ds.length ≤ 3) : OkD 40 50000 (.tuple ds) := (okd_tup h hl).le (by decide) (by decide)
theorem row_dp {K : PySem.W.Frag} {H : Hp} {v : V} {ns : List Num} (h : RowAt K H v ns) : Dp K H v (rowD ns) := by
  obtain ⟨p, vs, rfl, hp, hl, hn⟩ := h
  refine .tup hp ?_
  have key : ∀ (vs : List V) (ns : List Num), vs.length = ns.length → (∀ (i : Nat) v n, vs[i]? = some v → ns[i]? = some n → NumAt K H v n) → DpAll K H vs (ns.map numD) := by
    intro vs
    induction vs with
    | nil =>
      intro ns hl _
      cases ns with
      | nil => exact .nil
      | cons n ns => simp at hl
    | cons v vs ih =>
      intro ns hl h
      cases ns with
      | nil => simp at hl
      | cons n ns => exact .cons (num_dp (h 0 v n rfl rfl)) (ih ns (by simpa using hl) fun i a b e1 e2 => h (i + 1) a b e1 e2)
  exact key vs ns hl hn
theorem plt_dp {K : PySem.W.Frag} {H : Hp} {v : V} {ps : List (List Int)} (h : PlT K H v ps) : Dp K H v (plD ps) := by
  obtain ⟨p, ks, rfl, hp, rfl, hk⟩ := h
  refine .tup hp ?_
  clear hp
  induction ks with
  | nil => exact .nil
  | cons k ks ih => exact .cons (.tup (hk k List.mem_cons_self) (dp_ints _)) (ih fun q hq => hk q (List.mem_cons_of_mem _ hq))
theorem tupI_dp {K : PySem.W.Frag} {H : Hp} {v : V} {xs : List Int} (h : TupI K H v xs) : Dp K H v (intsD xs) := by
  obtain ⟨t, rfl, q⟩ := h
  exact .tup q (dp_ints _)
end K08

/-! What the law's def needs. -/
namespace K08
open PySem PySem.Spec PyProof.Rows L2
structure Fun1 (P : Program) (w : World) (K : PySem.W.Frag) (mg : Str → Option Value) (base : Heap) (x : Str) (st : Stmt) (n : Nat) (ps : List Str) (sp : Sp) where
  a : Addr
  d : FuncData
  F : FnP K x st a d
  g : mg x = some (.ref a)
  G : FnOk P w K mg base CX0 n a d ps sp
  b : L2.Binds K d ps []
structure Fs (P : Program) (w : World) (K : PySem.W.Frag) (mg : Str → Option Value) (base : Heap) where
  f_voices : Fun1 P w K mg base "voices" sVoices 8 ["rings", "row"] (spVoices K)
  f_row_back : Fun1 P w K mg base "row_back" sBack 8 ["rings", "row"] (spBack K)
  f_voice : Fun1 P w K mg base "voice" sVoice 8 ["rings", "row", "label"] (spVoice K)
  f_plus : Fun1 P w K mg base "plus" sPlus 6 ["order", "one", "other"] (spPlus K)
  f_times : Fun1 P w K mg base "times" sTimes 6 ["order", "one", "other"] (spTimes K)
  f_filled : Fun1 P w K mg base "filled" sFilled 8 ["rings", "row"] (spFilled K)
  f_sounding : Fun1 P w K mg base "sounding" sSounding 8 ["rings", "row"] (spSnd K)
  f_row_of : Fun1 P w K mg base "row_of" sRowOf 8 ["rings", "whole"] (spRO K)
  f_whole_of : Fun1 P w K mg base "whole_of" sWholeOf 8 ["rings", "row"] (spWO K)
  f_l_deck : Fun1 P w K mg base "_law_deck" sDeck 1 ["script"] (spDeck K)
  f_l_rings : Fun1 P w K mg base "_law_rings" sLRings 3 ["deck", "most"] (spLRings K)
  f_l_pick : Fun1 P w K mg base "_law_pick" sPick 2 ["deck", "some"] (spPick K)
  f_l_places : Fun1 P w K mg base "_law_places" sLPlaces 1 ["rings"] (spLPl K)
  f_l_order : Fun1 P w K mg base "_law_order" sLOrder 2 ["rings"] (spLOrder K)
  f_l_ring : Fun1 P w K mg base "_law_ring" sLRing 1 ["e"] (spLRing K)
  f_l_row : Fun1 P w K mg base "_law_row" sLRow 4 ["deck", "ring", "n"] (spLRow K)
  f_l_draw : Fun1 P w K mg base "_law_draw" sDraw 1 ["deck", "many"] spDraw
  f_l_made : Fun1 P w K mg base "_law_made" sLMade 2 ["ring", "sums", "bottom"] (spLMade K)
  f_l_voices : Fun1 P w K mg base "_law_voices" sLVoices 3 ["rings", "ring", "row", "sign", "over"] (spLV K)
  f_l_number : Fun1 P w K mg base "_law_number" sLNumber 3 ["deck", "ring", "size"] (spLNumber K)
  f_l_plus : Fun1 P w K mg base "_law_plus" sLPlus 3 ["ring", "one", "other", "k"] (spLPlus K)
  f_l_times : Fun1 P w K mg base "_law_times" sLTimes 3 ["ring", "one", "other"] (spLTimes K)
  f_l_is_zero : Fun1 P w K mg base "_law_is_zero" sLIsZero 1 ["number"] (spLZ K)
  f_l_whole_of : Fun1 P w K mg base "_law_whole_of" sLWholeOf 1 ["row"] (spLX K)
section
variable {X : Cx} {CX : CXT} {k : Nat} {f C : Addr} {fd : FuncData} {ps ks : List Str} {sp : Sp} {E : XK} {x m : Str} {p pos apos kpos : Pos} {kws : List Keyword} {tk : TA} {g : List Value → List Value → List Value} {gV : List V → List V → List V}
/-- f(k = v, ..), nothing by position -/
theorem pe_callK0 (F : FnOk X.prog X.w X.K X.mg X.base CX k f fd ps sp) (hr : Room k X.A) (hg : Gl X x) (hm : X.mg x = some (.ref f)) (hk : PySem.W.keepIn X.K (.ref f) = true) (hb : KBinds X.K fd ps ks g gV) (hx : Passes CX X E)
    (hkw : PK X kws tk) (hall : (backToKw pos (keywordEach kws X.env)).all (·.1.isSome) = true := by rfl) (hks : (backToKw pos (keywordEach kws X.env)).filterMap (·.1) = ks := by rfl)
    (hdb : (x == ("__debug__" : Str)) = false := by decide)
    (hpl : ((backTo pos (starEach [] X.env)).any (·.1) || (backToKw pos (keywordEach kws X.env)).any (·.1.isNone)) = false := by rfl) :
    PE X (.Call (.Name x p) [] kws pos) (tCallK sp gV E tNil tk) := by
  refine ⟨fun pins s σ H Q I h => ?_⟩
  refine wpAny_Call_Name_kw (ld_glob I hg hm ?_ hdb)
  refine PySem.W.callWith_KW0 (h₀ := X.base) I.ok.mod.kin hk hall (thn (hkw.run pos pins s σ H _ I h) fun ws s2 ⟨zs, H2, I2, rz, q2⟩ => ⟨I2.kIn, ?_⟩) hpl
  rw [hks]
  exact run_fnk (us := []) (vs := []) F hr hb hx I2 .nil rz q2
end
/-- two keywords, in the other order -/
def g2 : List Value → List Value → List Value
  | [], [p, l] => [l, p]
  | _, _ => []
def g2V : List V → List V → List V
  | [], [p, l] => [l, p]
  | _, _ => []
theorem g2_rel {vs : List V} {us : List Value} {zs : List V} {ws : List Value} (r : Vals vs us) (rz : Vals zs ws) : Vals (g2V vs zs) (g2 us ws) := by
  cases r with
  | nil =>
    cases rz with
    | nil => exact .nil
    | cons r1 rz =>
      cases rz with
      | nil => exact .nil
      | cons r2 rz =>
        cases rz with
        | nil => exact .cons r2 (.cons r1 .nil)
        | cons r4 rz => exact .nil
  | cons a b => cases rz <;> exact .nil
/-- three keywords, in the other order -/
def g3 : List Value → List Value → List Value
  | [], [p, l, r] => [r, l, p]
  | _, _ => []
def g3V : List V → List V → List V
  | [], [p, l, r] => [r, l, p]
  | _, _ => []
theorem g3_rel {vs : List V} {us : List Value} {zs : List V} {ws : List Value} (r : Vals vs us) (rz : Vals zs ws) : Vals (g3V vs zs) (g3 us ws) := by
  cases r with
  | nil =>
    cases rz with
    | nil => exact .nil
    | cons r1 rz =>
      cases rz with
      | nil => exact .nil
      | cons r2 rz =>
        cases rz with
        | nil => exact .nil
        | cons r3 rz =>
          cases rz with
          | nil => exact .cons r3 (.cons r2 (.cons r1 .nil))
          | cons r4 rz => exact .nil
  | cons a b => cases rz <;> exact .nil
theorem kb_voices {K : PySem.W.Frag} {f : Addr} {fd : FuncData} (F : FnP K "voices" sVoices f fd) : KBinds K fd ["rings", "row"] ["row", "rings"] g2 g2V := by
  refine ⟨fun s us ws KX hl => ?_, fun r rz => g2_rel r rz⟩
  obtain ⟨oc, od, dV, kV, doc, pm, an, cdv, ct, osl, rfl, lk, hcd, hD, hK⟩ := F.ex
  rcases hD with ⟨_, rfl⟩ | ⟨e, _⟩
  · match us, ws, hl with
    | [], [p, l], _ => exact .of_eq rfl
    | [], [], h => exact absurd h (by decide)
    | [], [_], h => exact absurd h (by show ¬ (0 : Nat) = 2; decide)
    | [], _ :: _ :: _ :: _, h => exact absurd h (by show ¬ (0 : Nat) = 2; decide)
    | _ :: _, _, h => exact absurd h (by show ¬ (0 : Nat) = 2; decide)
  · exact absurd rfl e
theorem kb_back {K : PySem.W.Frag} {f : Addr} {fd : FuncData} (F : FnP K "row_back" sBack f fd) : KBinds K fd ["rings", "row"] ["row", "rings"] g2 g2V := by
  refine ⟨fun s us ws KX hl => ?_, fun r rz => g2_rel r rz⟩
  obtain ⟨oc, od, dV, kV, doc, pm, an, cdv, ct, osl, rfl, lk, hcd, hD, hK⟩ := F.ex
  rcases hD with ⟨_, rfl⟩ | ⟨e, _⟩
  · match us, ws, hl with
    | [], [p, l], _ => exact .of_eq rfl
    | [], [], h => exact absurd h (by decide)
    | [], [_], h => exact absurd h (by show ¬ (0 : Nat) = 2; decide)
    | [], _ :: _ :: _ :: _, h => exact absurd h (by show ¬ (0 : Nat) = 2; decide)
    | _ :: _, _, h => exact absurd h (by show ¬ (0 : Nat) = 2; decide)
  · exact absurd rfl e
theorem kb_filled {K : PySem.W.Frag} {f : Addr} {fd : FuncData} (F : FnP K "filled" sFilled f fd) : KBinds K fd ["rings", "row"] ["row", "rings"] g2 g2V := by
  refine ⟨fun s us ws KX hl => ?_, fun r rz => g2_rel r rz⟩
  obtain ⟨oc, od, dV, kV, doc, pm, an, cdv, ct, osl, rfl, lk, hcd, hD, hK⟩ := F.ex
  rcases hD with ⟨_, rfl⟩ | ⟨e, _⟩
  · match us, ws, hl with
    | [], [p, l], _ => exact .of_eq rfl
    | [], [], h => exact absurd h (by decide)
    | [], [_], h => exact absurd h (by show ¬ (0 : Nat) = 2; decide)
    | [], _ :: _ :: _ :: _, h => exact absurd h (by show ¬ (0 : Nat) = 2; decide)
    | _ :: _, _, h => exact absurd h (by show ¬ (0 : Nat) = 2; decide)
  · exact absurd rfl e
theorem kb_sounding {K : PySem.W.Frag} {f : Addr} {fd : FuncData} (F : FnP K "sounding" sSounding f fd) : KBinds K fd ["rings", "row"] ["row", "rings"] g2 g2V := by
  refine ⟨fun s us ws KX hl => ?_, fun r rz => g2_rel r rz⟩
  obtain ⟨oc, od, dV, kV, doc, pm, an, cdv, ct, osl, rfl, lk, hcd, hD, hK⟩ := F.ex
  rcases hD with ⟨_, rfl⟩ | ⟨e, _⟩
  · match us, ws, hl with
    | [], [p, l], _ => exact .of_eq rfl
    | [], [], h => exact absurd h (by decide)
    | [], [_], h => exact absurd h (by show ¬ (0 : Nat) = 2; decide)
    | [], _ :: _ :: _ :: _, h => exact absurd h (by show ¬ (0 : Nat) = 2; decide)
    | _ :: _, _, h => exact absurd h (by show ¬ (0 : Nat) = 2; decide)
  · exact absurd rfl e
theorem kb_rowOf {K : PySem.W.Frag} {f : Addr} {fd : FuncData} (F : FnP K "row_of" sRowOf f fd) : KBinds K fd ["rings", "whole"] ["whole", "rings"] g2 g2V := by
  refine ⟨fun s us ws KX hl => ?_, fun r rz => g2_rel r rz⟩
  obtain ⟨oc, od, dV, kV, doc, pm, an, cdv, ct, osl, rfl, lk, hcd, hD, hK⟩ := F.ex
  rcases hD with ⟨_, rfl⟩ | ⟨e, _⟩
  · match us, ws, hl with
    | [], [p, l], _ => exact .of_eq rfl
    | [], [], h => exact absurd h (by decide)
    | [], [_], h => exact absurd h (by show ¬ (0 : Nat) = 2; decide)
    | [], _ :: _ :: _ :: _, h => exact absurd h (by show ¬ (0 : Nat) = 2; decide)
    | _ :: _, _, h => exact absurd h (by show ¬ (0 : Nat) = 2; decide)
  · exact absurd rfl e
theorem kb_wholeOf {K : PySem.W.Frag} {f : Addr} {fd : FuncData} (F : FnP K "whole_of" sWholeOf f fd) : KBinds K fd ["rings", "row"] ["row", "rings"] g2 g2V := by
  refine ⟨fun s us ws KX hl => ?_, fun r rz => g2_rel r rz⟩
  obtain ⟨oc, od, dV, kV, doc, pm, an, cdv, ct, osl, rfl, lk, hcd, hD, hK⟩ := F.ex
  rcases hD with ⟨_, rfl⟩ | ⟨e, _⟩
  · match us, ws, hl with
    | [], [p, l], _ => exact .of_eq rfl
    | [], [], h => exact absurd h (by decide)
    | [], [_], h => exact absurd h (by show ¬ (0 : Nat) = 2; decide)
    | [], _ :: _ :: _ :: _, h => exact absurd h (by show ¬ (0 : Nat) = 2; decide)
    | _ :: _, _, h => exact absurd h (by show ¬ (0 : Nat) = 2; decide)
  · exact absurd rfl e
theorem kb_voice {K : PySem.W.Frag} {f : Addr} {fd : FuncData} (F : FnP K "voice" sVoice f fd) : KBinds K fd ["rings", "row", "label"] ["label", "row", "rings"] g3 g3V := by
  refine ⟨fun s us ws KX hl => ?_, fun r rz => g3_rel r rz⟩
  obtain ⟨oc, od, dV, kV, doc, pm, an, cdv, ct, osl, rfl, lk, hcd, hD, hK⟩ := F.ex
  rcases hD with ⟨_, rfl⟩ | ⟨e, _⟩
  · match us, ws, hl with
    | [], [p, l, r], _ => exact .of_eq rfl
    | [], [], h => exact absurd h (by decide)
    | [], [_], h => exact absurd h (by show ¬ (0 : Nat) = 3; decide)
    | [], [_, _], h => exact absurd h (by show ¬ (0 : Nat) = 3; decide)
    | [], _ :: _ :: _ :: _ :: _, h => exact absurd h (by show ¬ (0 : Nat) = 3; decide)
    | _ :: _, _, h => exact absurd h (by show ¬ (0 : Nat) = 3; decide)
  · exact absurd rfl e
theorem Keeps.row {d l : Addr} {K : PySem.W.Frag} {H H' : Hp} {v : V} {ns : List Num} (k : Keeps d l H H') (D : DeckAt d l H) (h : RowAt K H v ns) : RowAt K H' v ns := by
  obtain ⟨p, vs, rfl, h1, h2⟩ := h
  exact ⟨p, vs, rfl, k.sqt D h1, k.nums D h2⟩
/-- places in a list, off the deck -/
def PlsAt (K : PySem.W.Frag) (l : Addr) (H : Hp) (a : Addr) (r : List Int) : Prop := PlL K H a (placesL r) ∧ a ≠ l
theorem Keeps.pls {d l a : Addr} {K : PySem.W.Frag} {H H' : Hp} {r : List Int} (k : Keeps d l H H') (D : DeckAt d l H) (h : PlsAt K l H a r) : PlsAt K l H' a r := by
  obtain ⟨⟨ks, h3, h4, h5⟩, hl⟩ := h
  obtain ⟨⟨m, j, h1⟩, _⟩ := deck_ref D
  exact ⟨⟨ks, k _ _ h3 (ne_of h3 h1 (by intro z; cases z)) hl, h4, fun p hp => k.sqt D (h5 p hp)⟩, hl⟩
theorem _root_.L2.Same.pls {l a : Addr} {K : PySem.W.Frag} {H H' : Hp} {r : List Int} (s : Same H H') (h : PlsAt K l H a r) : PlsAt K l H' a r := ⟨s.pll h.1, h.2⟩
/-- what the law has at hand all the way -/
structure Hand (K : PySem.W.Frag) (d l : Addr) (vr : V) (pl0 rg : Addr) (r : List Int) (H : Hp) : Prop where
  D : DeckAt d l H
  R : TupI K H vr r
  P : PlsAt K l H pl0 r
  G : RingAt l H rg (ordL r)
theorem Hand.same {K : PySem.W.Frag} {d l : Addr} {vr : V} {pl0 rg : Addr} {r : List Int} {H H' : Hp} (h : Hand K d l vr pl0 rg r H) (s : Same H H') : Hand K d l vr pl0 rg r H' := ⟨s.deck h.D, s.tupI h.R, s.pls h.P, s.ring h.G⟩
theorem Hand.keeps {K : PySem.W.Frag} {d l : Addr} {vr : V} {pl0 rg : Addr} {r : List Int} {H H' : Hp} (h : Hand K d l vr pl0 rg r H) (D' : DeckAt d l H') (k : Keeps d l H H') : Hand K d l vr pl0 rg r H' := ⟨D', k.tupI h.D h.R, k.pls h.D h.P, k.ring h.D h.G⟩
abbrev lawB : List Stmt := defBody sLaw
abbrev lawN : List Str := ["script", "deck", "rings", "places", "e", "ring", "n", "row", "other", "due", "back", "at", "total", "number", "item", "near", "far", "full", "whole", "made", "told", "x", "y"]
theorem lawB_len : lawB.length = 26 := by kernel_rfl
theorem scLaw : FnScope lawN ["script"] (defScope sLaw) := ⟨rfl, rfl, rfl, by decide +kernel, rfl, by decide +kernel, by decide +kernel⟩
theorem rep_ok {K : PySem.W.Frag} {a : Addr} {d : PyData} {H : Hp} {Q : VK} (h : Dp K H (.ref a) d) (ok : OkD 40 50000 d) (q : Q (.str d.shown) H) : rRepr K [.ref a] H Q := ⟨_, d, rfl, ⟨a, rfl⟩, h, ok, q⟩
theorem ne_same {s : Str} {H : Hp} {F : Bool → Hp → Prop} (h : F false H) : rNe (.str s) (.str s) H (fun x H' => ∃ c, x = .bl c ∧ F c H') := ⟨rfl, false, by simp, h⟩
theorem eq_same {s : Str} {H : Hp} {Q : VK} (h : Q (.bl true) H) : rEq (.str s) (.str s) H Q := ⟨rfl, by simpa using h⟩
theorem next_ifS {c : TT} {t u : TS} {D : Ends} {rt : VK} {b c' : L2.St → Hp → Prop} {σ : L2.St} {H : Hp} (h : tIfS c t u D σ H) : tNext { nx := tIfS c t u D, rt := rt, bk := b, ct := c' } σ H := h
end K08

/-! The law, from its whole rows on. -/
namespace K08
open PySem PySem.Spec PyProof.Rows L2
abbrev hdsL (ns : List Num) : List Int := ns.map fun n => n.1.getD 0 0
def WoAt (K : PySem.W.Frag) (H : Hp) (v : V) (ns : List Num) : Prop := (ns.any notWh = true ∧ v = .non) ∨ (ns.any notWh = false ∧ TupI K H v (hdsL ns))
def woD (ns : List Num) : PyData := if ns.any notWh = true then .none else intsD (hdsL ns)
theorem _root_.L2.Same.wo {K : PySem.W.Frag} {H H' : Hp} {v : V} {ns : List Num} (s : Same H H') (h : WoAt K H v ns) : WoAt K H' v ns := h.imp id fun z => ⟨z.1, s.tupI z.2⟩
theorem wo_dp {K : PySem.W.Frag} {H : Hp} {v : V} {ns : List Num} (h : WoAt K H v ns) : Dp K H v (woD ns) := by
  unfold woD
  rcases h with ⟨h1, rfl⟩ | ⟨h1, h2⟩
  · rw [if_pos h1]
    exact .non
  · rw [if_neg (by rw [h1]; decide)]
    exact tupI_dp h2
theorem wo_k {K : PySem.W.Frag} {H : Hp} {ns : List Num} {Q : VK} (q : ∀ v H', Same H H' → WoAt K H' v ns → Q v H') : (ns.any notWh = true → ∀ H', Same H H' → Q .non H') ∧ (ns.any notWh = false → ∀ t H', Same H H' → H' t = some (.tup ((hdsL ns).map V.int)) → Q (.ref t) H') :=
  ⟨fun h H' s => q _ H' s (.inl ⟨h, rfl⟩), fun h t H' s ht => q _ H' s (.inr ⟨h, t, rfl, SqT.of ht⟩)⟩
theorem okd_wo {ns : List Num} (h : Bd ns) (hl : ns.length ≤ 16) : OkD 4 560 (woD ns) := by
  unfold woD
  split
  · exact okd_non.le (by decide) (by decide)
  · refine (okd_ints (n := 16) (fun x hx => ?_) (by rw [List.length_map]; exact hl)).le (by decide) (by decide)
    obtain ⟨n, hn, rfl⟩ := List.mem_map.mp hx
    rw [List.getD_eq_getElem?_getD]
    cases q : n.1[0]? with
    | none => exact Nat.two_pow_pos 150
    | some t => exact (h n hn).1 t (List.mem_of_getElem? q)
theorem bd_of {r : List Int} (hr : r ∈ RR) {D : Int} {ns : List Num} {M : Nat} (h : RowS r D ns) (hD : 1 ≤ D) (hD2 : D ≤ 1000) (ha : AbsR M ns) (hM : M < 2 ^ 150) : Bd ns := fun n hn => by
  have c := h.c.num n hn
  have := Int.le_of_dvd (by omega) (h.d n hn)
  have p := c.pos
  refine ⟨fun t ht => Nat.lt_of_le_of_lt (ha n hn t ht) hM, ?_, by rw [c.len]; exact dg_le hr⟩
  have e : n.2.natAbs < 1001 := by omega
  exact Nat.lt_of_lt_of_le e (by decide)
theorem rof_eq {r : List Int} (hr : r ∈ RR) (x : Int) : lowL (redL [x] (polyL (ordL r))) 1 = whN r x := by
  rw [low_one, red_whole (poly_len hr).1]
  rfl
theorem rowS_rof {r : List Int} (hr : r ∈ RR) {xs : List Int} (hl : xs.length = (placesL r).length) : RowS r 6 (rofL r xs) := by
  refine ⟨⟨by unfold rofL; rw [List.length_map, hl], fun n hn => ?_⟩, fun n hn => ?_⟩
  · obtain ⟨x, _, rfl⟩ := List.mem_map.mp hn
    rw [← rof_eq hr]
    exact numC_low (by decide) (redL_len' (by have := poly_len hr; omega))
  · obtain ⟨x, _, rfl⟩ := List.mem_map.mp hn
    exact ⟨6, rfl⟩
theorem abs_rof {r : List Int} {xs : List Int} {M : Nat} (h : Abs M xs) : AbsR M (rofL r xs) := fun n hn => by
  obtain ⟨x, hx, rfl⟩ := List.mem_map.mp hn
  intro t ht
  rcases List.mem_cons.mp ht with rfl | z
  · exact h _ hx
  · rw [(List.mem_replicate.mp z).2]
    simp
theorem rof_wh {r : List Int} (xs : List Int) : (rofL r xs).any notWh = false := by
  rw [List.any_eq_false]
  intro n hn
  obtain ⟨x, _, rfl⟩ := List.mem_map.mp hn
  unfold notWh whN someN
  simp
theorem rof_hds {r : List Int} (xs : List Int) : hdsL (rofL r xs) = xs := by
  unfold hdsL rofL whN
  rw [List.map_map]
  conv => rhs; rw [← List.map_id xs]
  exact List.map_congr_left fun x _ => rfl
theorem wo_use {K : PySem.W.Frag} {H : Hp} {v u : V} {r : List Int} {ns : List Num} {Q : VK} {E : XK} (h1 : TupI K H v r) (h2 : RowAt K H u ns) (h3 : r ∈ RR) (h4 : RowG r ns) (q : ∀ v H', Same H H' → WoAt K H' v ns → Q v H') : spWO K [v, u] H Q E :=
  ⟨v, u, r, ns, rfl, h1, h2, h3, h4, (wo_k q).1, (wo_k q).2⟩
theorem lx_use {K : PySem.W.Frag} {H : Hp} {u : V} {ns : List Num} {Q : VK} {E : XK} (h2 : RowAt K H u ns) (h3 : ns.length ≤ 1000 ∧ ∀ n ∈ ns, 1 ≤ n.1.length ∧ n.1.length ≤ 1000) (q : ∀ v H', Same H H' → WoAt K H' v ns → Q v H') : spLX K [u] H Q E :=
  ⟨u, ns, rfl, h2, h3.1, h3.2, (wo_k q).1, (wo_k q).2⟩
theorem ret_op {r : R2} {ta tb : TE} {D : Ends} {σ : L2.St} {H : Hp} (h : ta σ H fun x H1 => tb σ H1 fun y H2 => r x y H2 D.rt) : tRet (tOp r ta tb) D σ H := h
theorem next_ret {r : R2} {ta tb : TE} {D : Ends} {rt : VK} {b c' : L2.St → Hp → Prop} {σ : L2.St} {H : Hp} (h : ta σ H fun x H1 => tb σ H1 fun y H2 => r x y H2 D.rt) : tNext { nx := tRet (tOp r ta tb) D, rt := rt, bk := b, ct := c' } σ H := h
theorem if_op {r : R2} {ta tb : TE} {t u : L2.TS} {D : Ends} {σ : L2.St} {H : Hp} (h : ta σ H fun x H1 => tb σ H1 fun y H2 => r x y H2 fun z H3 => ∃ k, z = .bl k ∧ (fun b H1 => if b = true then t D σ H1 else u D σ H1) k H3) : tIfS (tTest (tOp r ta tb)) t u D σ H := h
theorem seq_if {r : R2} {ta tb : TE} {t u v : L2.TS} {D : Ends} {σ : L2.St} {H : Hp} (h : ta σ H fun x H1 => tb σ H1 fun y H2 => r x y H2 fun z H3 => ∃ k, z = .bl k ∧ (fun b H1 => if b = true then t { D with nx := fun σ2 H2 => v D σ2 H2 } σ H1 else u { D with nx := fun σ2 H2 => v D σ2 H2 } σ H1) k H3) : tSeq (tIfS (tTest (tOp r ta tb)) t u) v D σ H := h
theorem set_ok {i : Nat} {x : V} {σ : L2.St} {H : Hp} {Q : L2.St → Hp → Prop} (h : Q (σ.set i (some x)) H) : gName i x σ H Q := h
theorem next_asg {te : TE} {g : TG} {t : L2.TS} {D : Ends} {rt : VK} {b c' : L2.St → Hp → Prop} {σ : L2.St} {H : Hp} (h : te σ H fun v H1 => g v σ H1 fun σ2 H2 => t D σ2 H2) : tNext { nx := tSeq (tAsg te g) t D, rt := rt, bk := b, ct := c' } σ H := h
theorem tup2_ok {t1 t2 : TE} {σ : L2.St} {H : Hp} {Q : VK} (h : t1 σ H fun x H1 => t2 σ H1 fun y H2 => ([x, y] : List V).length ≤ sizeLine ∧ ∀ p, H2 p = none → Q (.ref p) (upd H2 p (.tup [x, y]))) : tTup (tCons t1 (tCons t2 tNil)) σ H Q := h
theorem cb1_ok {r : List V → Hp → VK → Prop} {t1 : TE} {σ : L2.St} {H : Hp} {Q : VK} (h : t1 σ H fun x H1 => r [x] H1 Q) : tCB r (tCons t1 tNil) σ H Q := h
theorem call_wo {K : PySem.W.Frag} {i j : Nat} {σ : L2.St} {H : Hp} {v u : V} {r : List Int} {ns : List Num} {Q : VK} (e1 : σ[i]? = some (some v)) (e2 : σ[j]? = some (some u)) (h1 : TupI K H v r) (h2 : RowAt K H u ns) (h3 : r ∈ RR) (h4 : RowG r ns) (q : ∀ v H', Same H H' → WoAt K H' v ns → Q v H') :
    tCall (spWO K) [] E0 (tCons (tVar i) (tCons (tVar j) tNil)) σ H Q := ⟨_, e1, _, e2, wo_use (E := E0) h1 h2 h3 h4 q⟩
theorem call_woK {K : PySem.W.Frag} {i j : Nat} {σ : L2.St} {H : Hp} {v u : V} {r : List Int} {ns : List Num} {Q : VK} (e1 : σ[i]? = some (some v)) (e2 : σ[j]? = some (some u)) (h1 : TupI K H v r) (h2 : RowAt K H u ns) (h3 : r ∈ RR) (h4 : RowG r ns) (q : ∀ v H', Same H H' → WoAt K H' v ns → Q v H') :
    tCallK (spWO K) g2V E0 tNil (tCons (tVar j) (tCons (tVar i) tNil)) σ H Q := ⟨_, e2, _, e1, wo_use (E := E0) h1 h2 h3 h4 q⟩
theorem call_lx {K : PySem.W.Frag} {j : Nat} {σ : L2.St} {H : Hp} {u : V} {ns : List Num} {Q : VK} (e2 : σ[j]? = some (some u)) (h2 : RowAt K H u ns) (h3 : ns.length ≤ 1000 ∧ ∀ n ∈ ns, 1 ≤ n.1.length ∧ n.1.length ≤ 1000) (q : ∀ v H', Same H H' → WoAt K H' v ns → Q v H') :
    tCall (spLX K) [] E0 (tCons (tVar j) tNil) σ H Q := ⟨_, e2, lx_use (E := E0) h2 h3 q⟩
section
variable {P : Program} {w : World} {K : PySem.W.Frag} {mg : Str → Option Value} {base : Heap} {f : Addr} {cdv : Value} {A : Around} {outer : List Env} {s0 : Shared} {H0 : Hp} {E : XK}
theorem part21 (Z : Fs P w K mg base) (B : Bl mg) (hA : A.guards = some []) (hr : Room 8 (A.deeper (envOfC "law" (defScope sLaw) s0.heap.objs.size f cdv))) :
    ∃ t, PSs (cxOf CX0 P w K mg base lawN "law" (defScope sLaw) f cdv A outer s0 H0 E).nox (lawB.drop 21) t ∧ ∀ (k : Ends) (a d l : Addr) (vr vrow vdue : V) (pl0 rg : Addr) (r : List Int) (ns : List Num) (x6 x8 x10 x11 x12 x13 x14 x15 x16 x17 x18 x19 x20 x21 x22 : Option V) (H : Hp),
      Hand K d l vr pl0 rg r H → RowAt K H vrow ns → RowAt K H vdue (voL r ns) → r ∈ RR → RowS r 6 ns → AbsR (2 ^ 31) ns → (∀ H', k.rt (.bl true) H') →
      t k [some (.ref a), some (.ref d), some vr, some (.ref pl0), some (.int (ordL r)), some (.ref rg), x6, some vrow, x8, some vdue, x10, x11, x12, x13, x14, x15, x16, x17, x18, x19, x20, x21, x22] H := by
  have hu := hu_of hr
  have cr : CallR (Cx.nox (cxOf CX0 P w K mg base lawN "law" (defScope sLaw) f cdv A outer s0 H0 E)) (.builtin "repr") (rRepr K) := call_repr hA hr.units
  refine ⟨_, (pss_cons (ps_set (i := 18) scLaw.nd rfl (Or.inl rfl) (pe_callTy call_tuple_of (by rfl) (B "tuple" (by decide +kernel)) (by decide +kernel) (pa_cons
        (pe_lc (own := [("x", 21)]) (g := gName 21) (tt := tYes) (te := tIf (tTest (tOp rEq (tCall spDraw [] E0 (tCons (tVar 1) (tCons (tC (.int 2)) tNil))) (tC (.int 0)))) (tOp rMinus (tCall spDraw [] E0 (tCons (tVar 1) (tCons (tC (.int 2000001)) tNil))) (tC (.int 1000000))) (tC (.int 0))) rfl scLaw.nd (pi_list (pv 3))
          (blkOk_by (own := [("x", 21)]) (N := lawN) (sc := defScope sLaw) (by decide +kernel)) (fun _ _ _ _ _ => pg_name (i := 21) scLaw.nd rfl (Or.inl rfl)) (fun _ _ _ _ _ => pts_nil)
          (fun _ _ _ _ _ => pe_ifExp (pt_cmpR op_eq (pe_call Z.f_l_draw.G (hr.mono (by decide)) rfl Z.f_l_draw.g Z.f_l_draw.F.kp Z.f_l_draw.b .nil pass0 (pa_cons (pv 1) (pa_cons pe_int pa_nil))) pe_int (nomark _)) (pe_op op_sub (pe_call Z.f_l_draw.G (hr.mono (by decide)) rfl Z.f_l_draw.g Z.f_l_draw.F.kp Z.f_l_draw.b .nil pass0 (pa_cons (pv 1) (pa_cons pe_int pa_nil))) pe_int) pe_int)) pa_nil)))
    (pss_cons (ps_set (i := 19) scLaw.nd rfl (Or.inl rfl) (pe_callTy call_tuple_of (by rfl) (B "tuple" (by decide +kernel)) (by decide +kernel) (pa_cons
        (pe_lc (own := [("x", 21)]) (g := gName 21) (tt := tYes) (te := tCall (spLMade K) [] E0 (tCons (tVar 5) (tCons (tLst (tCons (tVar 21) tNil)) (tCons (tC (.int 1)) tNil)))) rfl scLaw.nd (pi_tup (pv 18))
          (blkOk_by (own := [("x", 21)]) (N := lawN) (sc := defScope sLaw) (by decide +kernel)) (fun _ _ _ _ _ => pg_name (i := 21) scLaw.nd rfl (Or.inl rfl)) (fun _ _ _ _ _ => pts_nil)
          (fun _ _ _ _ _ => pe_call Z.f_l_made.G (hr.mono (by decide)) rfl Z.f_l_made.g Z.f_l_made.F.kp Z.f_l_made.b .nil pass0 (pa_cons (pv 5) (pa_cons (pe_lst (pa_cons (pv 21) pa_nil)) (pa_cons pe_int pa_nil))))) pa_nil)))
    (pss_cons (ps_if (pt_cmpR op_ne (pe_callB cr (by rfl) (B "repr" (by decide +kernel)) (by decide +kernel) (pa_cons (pe_tup (pa_cons (pe_call Z.f_row_of.G hr (by rfl) Z.f_row_of.g Z.f_row_of.F.kp Z.f_row_of.b .nil pass0 (pa_cons (pv 2) (pa_cons (pv 18) pa_nil)))
          (pa_cons (pe_callK0 Z.f_row_of.G hr (by rfl) Z.f_row_of.g Z.f_row_of.F.kp (kb_rowOf Z.f_row_of.F) pass0 (pk_cons (pv 18) (pk_cons (pv 2) pk_nil))) (pa_cons (pe_call Z.f_whole_of.G hr (by rfl) Z.f_whole_of.g Z.f_whole_of.F.kp Z.f_whole_of.b .nil pass0 (pa_cons (pv 2) (pa_cons (pv 19) pa_nil))) pa_nil)))) pa_nil))
        (pe_callB cr (by rfl) (B "repr" (by decide +kernel)) (by decide +kernel) (pa_cons (pe_tup (pa_cons (pv 19) (pa_cons (pv 19) (pa_cons (pv 18) pa_nil)))) pa_nil)) (nomark _)) (pss_one (ps_ret pe_bl)) pss_nil)
    (pss_cons (ps_set (i := 20) scLaw.nd rfl (Or.inl rfl) (pe_tup (pa_cons (pe_call Z.f_whole_of.G hr (by rfl) Z.f_whole_of.g Z.f_whole_of.F.kp Z.f_whole_of.b .nil pass0 (pa_cons (pv 2) (pa_cons (pv 7) pa_nil)))
          (pa_cons (pe_callK0 Z.f_whole_of.G hr (by rfl) Z.f_whole_of.g Z.f_whole_of.F.kp (kb_wholeOf Z.f_whole_of.F) pass0 (pk_cons (pv 9) (pk_cons (pv 2) pk_nil))) pa_nil))))
    (pss_one (ps_ret (pe_cmpR op_eq (pe_callB cr (by rfl) (B "repr" (by decide +kernel)) (by decide +kernel) (pa_cons (pv 20) pa_nil))
        (pe_callB cr (by rfl) (B "repr" (by decide +kernel)) (by decide +kernel) (pa_cons (pe_tup (pa_cons (pe_call Z.f_l_whole_of.G (hr.mono (by decide)) (by rfl) Z.f_l_whole_of.g Z.f_l_whole_of.F.kp Z.f_l_whole_of.b .nil pass0 (pa_cons (pv 7) pa_nil)) (pa_cons (pe_call Z.f_l_whole_of.G (hr.mono (by decide)) (by rfl) Z.f_l_whole_of.g Z.f_l_whole_of.F.kp Z.f_l_whole_of.b .nil pass0 (pa_cons (pv 9) pa_nil)) pa_nil))) pa_nil)) (nomark _)))))))), fun k a d l vr vrow vdue pl0 rg r ns x6 x8 x10 x11 x12 x13 x14 x15 x16 x17 x18 x19 x20 x21 x22 H hd hR hV h14 hS hAb kq => ?_⟩
  obtain ⟨⟨kp, hk1, hk2, hk3⟩, plL⟩ := id hd.P
  obtain ⟨⟨mm, jj, hd1⟩, ns1, hl1⟩ := deck_ref hd.D
  have plD : pl0 ≠ d := ne_of hk1 hd1 (by intro z; cases z)
  have hkl : (rf kp).length = (placesL r).length := by rw [← hk2, List.length_map, List.length_map]
  have l16 := (pl_pos r h14).2
  have he := er_in r h14
  refine ⟨_, rfl, pl0, rfl, ⟨_, SqL.of hk1⟩, fun D hD => ?_⟩
  have Dd : D ≠ d := (ne_of_none hd1 hD).symm
  have Dl : D ≠ l := (ne_of_none hl1 hD).symm
  refine lc_list (K := K) (a := pl0) (xs := rf kp) (fun i H2 => DeckAt d l H2 ∧ Keeps d l H H2 ∧ ∃ xs : List Int, H2 D = some (.lst (xs.map V.int)) ∧ xs.length = i ∧ Abs 1000001 xs) ⟨hd.D.new hD, .new hD, [], upd_same, rfl, fun x hx => absurd hx (by simp)⟩ (fun i H2 _ ⟨_, z, _⟩ => SqL.of (z _ _ hk1 plD plL)) ?_ ?_
  · rintro i y H2 hi ⟨D2, k2, xs, h2, xl, xb⟩
    have il := ltL hi
    have fin : ∀ (t : Int) (H4 : Hp), t.natAbs ≤ 1000001 → DeckAt d l H4 → Keeps d l H2 H4 → ∃ acc, H4 D = some (.lst acc) ∧ acc.length < sizeLine ∧ (DeckAt d l (upd H4 D (.lst (acc ++ [.int t]))) ∧ Keeps d l H (upd H4 D (.lst (acc ++ [.int t]))) ∧ ∃ xs : List Int, upd H4 D (.lst (acc ++ [.int t])) D = some (.lst (xs.map V.int)) ∧ xs.length = i + 1 ∧ Abs 1000001 xs) := by
      intro t H4 t0 D4 k4
      refine ⟨_, k4 _ _ h2 Dd Dl, sl_lt (by rw [List.length_map]; omega), D4.off Dd Dl, fun b o eb nb nl => ?_, xs ++ [t], by rw [upd_same, List.map_append]; rfl, by rw [List.length_append, xl]; rfl, fun x hx => ?_⟩
      · rw [upd_ne (ne_of_none eb hD)]
        exact (k2.trans k4) b o eb nb nl
      · rcases List.mem_append.mp hx with z | z
        · exact xb x z
        · rw [List.mem_singleton.mp z]
          exact t0
    refine ⟨rfl, _, rfl, d, l, 2, rfl, D2, by decide, by decide, fun x H3 x0 x1 D3 k3 => ⟨rfl, _, rfl, ?_⟩⟩
    refine ite2 (fun _ => ?_) (fun _ => ?_)
    · refine ⟨_, rfl, d, l, 2000001, rfl, D3, by decide, by decide, fun x H4 x0 x1 D4 k4 => ⟨_, _, rfl, rfl, fin _ H4 (by omega) D4 (k3.trans k4)⟩⟩
    · exact fin 0 H3 (by decide) D3 k3
  · rintro H2 ⟨D2, k2, xs, h2, xl, xb⟩
    rw [hkl] at xl
    have hd2 := hd.keeps D2 k2
    refine ⟨D, _, rfl, .inl ⟨SqL.of h2, fun W hW => ?_⟩⟩
    have s3 : Same H2 (upd H2 W (.tup (xs.map V.int))) := same_upd hW
    have hW3 : TupI K (upd H2 W (.tup (xs.map V.int))) (.ref W) xs := tupI_of upd_same
    generalize upd H2 W (.tup (xs.map V.int)) = H3 at s3 hW3
    have hd3 := hd2.same s3
    have hR3 := s3.row (k2.row hd.D hR)
    have hV3 := s3.row (k2.row hd.D hV)
    have hW3' : SqT K H3 W (xs.map V.int) := by
      obtain ⟨t, e, q⟩ := hW3
      cases e
      exact q
    -- made
    refine ⟨_, rfl, W, rfl, ⟨_, hW3'⟩, fun D5 hD5 => ?_⟩
    refine lc_tup (K := K) (a := W) (xs := xs.map V.int) (fun i H4 => Same H3 H4 ∧ ∃ vs, H4 D5 = some (.lst vs) ∧ Nums K H4 vs ((rofL r xs).take i)) ⟨same_upd hD5, [], upd_same, nums_nil⟩ (fun i H4 _ ⟨z, _⟩ => z.tup hW3') ?_ ?_
    · rintro i y H4 hi ⟨s4, vs, h4, hN⟩
      obtain ⟨x, rfl, hx⟩ := getI hi
      have il := ltL hx
      refine ⟨rfl, _, rfl, _, rfl, by show 1 ≤ sizeLine; decide, fun z hz => ?_⟩
      have sz : Same H4 (upd H4 z (.lst [.int x])) := same_upd hz
      have g5 := (s4.trans sz).ring hd3.G
      refine ⟨rg, z, [x], ordL r, 1, rfl, he, SqL.of g5.1, .inl (SqL.of upd_same), by show 1 ≤ 100; decide, by decide, by decide, fun v H5 s5 hv => ?_⟩
      rw [rof_eq h14] at hv
      have s45 := sz.trans s5
      have h5 := s45 _ _ h4
      have vl : vs.length < sizeLine := sl_lt (by rw [hN.1, List.length_take]; unfold rofL; rw [List.length_map]; omega)
      refine ⟨vs, h5, vl, same_at (s4.trans s45) hD5, vs ++ [v], upd_same, ?_⟩
      have e9 : (rofL r xs).take (i + 1) = (rofL r xs).take i ++ [whN r x] := by
        refine takeS ?_
        unfold rofL
        rw [List.getElem?_map, hx]
        rfl
      rw [e9]
      exact (nums_at (s45.nums hN) h5).snoc (num_at hv h5)
    · rintro H4 ⟨s4, vs, h4, hN⟩
      have rl : (xs.map V.int).length = (rofL r xs).length := by unfold rofL; rw [List.length_map, List.length_map]
      rw [rl, List.take_length] at hN
      refine ⟨D5, _, rfl, .inl ⟨SqL.of h4, fun M hM => ?_⟩⟩
      have s5 : Same H4 (upd H4 M (.tup vs)) := same_upd hM
      have hM5 : RowAt K (upd H4 M (.tup vs)) (.ref M) (rofL r xs) := ⟨M, vs, rfl, SqT.of upd_same, s5.nums hN⟩
      generalize upd H4 M (.tup vs) = H5 at s5 hM5
      have s35 := s4.trans s5
      have hd5 := hd3.same s35
      have hW5 := s35.tupI hW3
      have hRo := rowS_rof h14 xl
      have gRo := hRo.g h14 (by decide) (by decide)
      -- row_of, row_of, whole_of
      have zz : ∀ X : Prop, X → X := fun _ h => h
      refine set_ok ?_
      dsimp only
      refine cb1_ok ?_
      refine ⟨_, rfl, _, rfl, _, _, r, xs, rfl, hd5.R, hW5, h14, xl, fun v1 H6 s6 hv1 => ?_⟩
      refine ⟨_, rfl, _, rfl, _, _, r, xs, rfl, s6.tupI hd5.R, s6.tupI hW5, h14, xl, fun v2 H7 s7 hv2 => ?_⟩
      have s57 := s6.trans s7
      refine ⟨_, rfl, _, rfl, _, _, r, rofL r xs, rfl, s57.tupI hd5.R, s57.row hM5, h14, gRo, fun z => ?_, fun _ t H8 s8 ht => ?_⟩
      · rw [rof_wh] at z
        cases z
      · have ht : H8 t = some (.tup ((hdsL (rofL r xs)).map V.int)) := ht
        rw [rof_hds] at ht
        have s58 := s57.trans s8
        refine ⟨by show 3 ≤ sizeLine; decide, fun q hq => ?_⟩
        have sq : Same H8 (upd H8 q (.tup [v1, v2, .ref t])) := same_upd hq
        have gq : SqT K (upd H8 q (.tup [v1, v2, .ref t])) q [v1, v2, .ref t] := SqT.of upd_same
        generalize upd H8 q (.tup [v1, v2, .ref t]) = H9 at sq gq
        have okD : OkD 40 50000 (.tuple [rowD (rofL r xs), rowD (rofL r xs), intsD xs]) := by
          have b1 : OkD 4 560 (rowD (rofL r xs)) := okd_row (bd_of h14 hRo (by decide) (by decide) (abs_rof xb) (Nat.lt_of_lt_of_le (show 1000001 < 2 ^ 20 by decide) (by decide))) (by rw [hRo.c.len]; exact l16)
          have b2 : OkD 4 560 (intsD xs) := (okd_ints (n := 16) (fun x hx => Nat.lt_of_le_of_lt (xb x hx) (Nat.lt_of_lt_of_le (show 1000001 < 2 ^ 20 by decide) (by decide))) (by rw [xl]; exact l16)).le (by decide) (by decide)
          refine okd_list (fun x hx => ?_) (Nat.le_refl _)
          rcases List.mem_cons.mp hx with rfl | hx
          · exact b1
          · rcases List.mem_cons.mp hx with rfl | hx
            · exact b1
            · rw [List.mem_singleton.mp hx]
              exact b2
        have dp9 : Dp K H9 (.ref q) (.tuple [rowD (rofL r xs), rowD (rofL r xs), intsD xs]) := .tup gq (.cons (row_dp ((s7.trans (s8.trans sq)).row hv1)) (.cons (row_dp ((s8.trans sq).row hv2)) (.cons (tupI_dp (sq.tupI (tupI_of ht))) .nil)))
        refine rep_ok dp9 okD ?_
        have s59 := s58.trans sq
        refine cb1_ok ?_
        refine ⟨_, rfl, _, rfl, _, rfl, by show 3 ≤ sizeLine; decide, fun q2 hq2 => ?_⟩
        have sq2 : Same H9 (upd H9 q2 (.tup [.ref M, .ref M, .ref W])) := same_upd hq2
        have gq2 : SqT K (upd H9 q2 (.tup [.ref M, .ref M, .ref W])) q2 [.ref M, .ref M, .ref W] := SqT.of upd_same
        generalize upd H9 q2 (.tup [.ref M, .ref M, .ref W]) = H10 at sq2 gq2
        have s5A := s59.trans sq2
        refine rep_ok (d := .tuple [rowD (rofL r xs), rowD (rofL r xs), intsD xs]) (.tup gq2 (.cons (row_dp (s5A.row hM5)) (.cons (row_dp (s5A.row hM5)) (.cons (tupI_dp (s5A.tupI hW5)) .nil)))) okD ?_
        refine ne_same ?_
        refine ite2 (fun c => absurd c (by decide)) fun _ => ?_
        -- told
        have s3A := s35.trans s5A
        have hd10 := hd3.same s3A
        have hR10 := s3A.row hR3
        have hV10 := s3A.row hV3
        have hVs := rowS_vo h14 hS (by decide)
        have gR := hS.g h14 (by decide) (by decide)
        have gV := hVs.g h14 (by decide) (by decide)
        have lev := hS.lev (by decide) ns.length
        rw [List.take_length] at lev
        have bR : Bd ns := bd_of h14 hS (by decide) (by decide) hAb (by decide)
        have bV : Bd (voL r ns) := bd_of h14 hVs (by decide) (by decide) (abs_vo h14 (by omega) hS.c hAb) (by decide)
        refine next_asg ?_
        refine tup2_ok ?_
        refine call_wo rfl rfl hd10.R hR10 h14 gR fun v1' H11 s11 hv1' => ?_
        refine call_woK rfl rfl (s11.tupI hd10.R) (s11.row hV10) h14 gV fun v2' H12 s12 hv2' => ?_
        refine ⟨by show 2 ≤ sizeLine; decide, fun qt hqt => ?_⟩
        have st : Same H12 (upd H12 qt (.tup [v1', v2'])) := same_upd hqt
        have gt : SqT K (upd H12 qt (.tup [v1', v2'])) qt [v1', v2'] := SqT.of upd_same
        generalize upd H12 qt (.tup [v1', v2']) = H13 at st gt
        have okW : OkD 40 50000 (.tuple [woD ns, woD (voL r ns)]) := by
          refine okd_list (fun x hx => ?_) (by show 2 ≤ 3; decide)
          rcases List.mem_cons.mp hx with rfl | hx
          · exact okd_wo bR (by rw [hS.c.len]; exact l16)
          · rw [List.mem_singleton.mp hx]
            exact okd_wo bV (by rw [hVs.c.len]; exact l16)
        refine ret_op ?_
        refine cb1_ok ?_
        refine ⟨_, rfl, ?_⟩
        refine rep_ok (d := .tuple [woD ns, woD (voL r ns)]) (.tup gt (.cons (wo_dp ((s12.trans st).wo hv1')) (.cons (wo_dp (st.wo hv2')) .nil))) okW ?_
        have s1D := (s11.trans s12).trans st
        have few : ∀ (ms : List Num), RowS r 6 ms → ms.length ≤ 1000 ∧ ∀ n ∈ ms, 1 ≤ n.1.length ∧ n.1.length ≤ 1000 := fun ms h => ⟨by rw [h.c.len]; omega, fun n hn => by
          rw [(h.c.num n hn).len]
          have := dg_le h14
          have := (poly_len h14).1
          show 1 ≤ (polyL (ordL r)).length - 1 ∧ _
          omega⟩
        refine cb1_ok ?_
        refine tup2_ok ?_
        refine call_lx rfl (s1D.row hR10) (few ns hS) fun v3' H14 s14 hv3' => ?_
        refine call_lx rfl ((s1D.trans s14).row hV10) (few _ hVs) fun v4' H15 s15 hv4' => ?_
        refine ⟨by show 2 ≤ sizeLine; decide, fun qu hqu => ?_⟩
        have su : Same H15 (upd H15 qu (.tup [v3', v4'])) := same_upd hqu
        have gu : SqT K (upd H15 qu (.tup [v3', v4'])) qu [v3', v4'] := SqT.of upd_same
        generalize upd H15 qu (.tup [v3', v4']) = H16 at su gu
        refine rep_ok (d := .tuple [woD ns, woD (voL r ns)]) (.tup gu (.cons (wo_dp ((s15.trans su).wo hv3')) (.cons (wo_dp (su.wo hv4')) .nil))) okW ?_
        exact eq_same (kq H16)
end
end K08

/-! The law: filled places and sounding labels. -/
namespace K08
open PySem PySem.Spec PyProof.Rows L2
theorem len_vo (r : List Int) (ns : List Num) : (voL r ns).length = (placesL r).length := by simp [voL]
theorem okd_fil {r : List Int} (hr : r ∈ RR) (ns : List Num) (i : Nat) : OkD 4 560 (plD (filL r ns i)) := by
  have hm : ∀ p ∈ filL r ns i, p ∈ placesL r := fun p hp => by
    unfold filL at hp
    obtain ⟨q, hq, e⟩ := List.mem_filterMap.mp hp
    have := List.mem_of_mem_take hq
    split at e
    · rw [← Option.some.inj e]
      exact (List.of_mem_zip (show (q.1, q.2) ∈ _ from this)).1
    · cases e
  refine okd_pl (fun p hp => ?_) ?_
  · have z := rr_in r hr p (hm p hp)
    have := (rr_len r hr).2
    exact ⟨by omega, z.2⟩
  · unfold filL
    have := (pl_pos r hr).2
    exact Nat.le_trans (List.length_filterMap_le _ _) (Nat.le_trans (List.length_take_le' _ _) (by rw [List.length_zip]; omega))
theorem _root_.L2.Same.plt {K : PySem.W.Frag} {H H' : Hp} {v : V} {ps : List (List Int)} (s : Same H H') (h : PlT K H v ps) : PlT K H' v ps := by
  obtain ⟨p, ks, rfl, h1, h2, h3⟩ := h
  exact ⟨p, ks, rfl, s.tup h1, h2, s.tl h3⟩
theorem fil_lc7 {K : PySem.W.Frag} {v : V} {pl0 : Addr} {r : List Int} {ns : List Num} {H : Hp} {Q : VK} {y0 y1 y2 y4 y5 y6 y8 y9 y10 y11 y12 y13 y14 y15 y16 y17 y18 y19 y20 y21 y22 : Option V} (hP : PlL K H pl0 (placesL r)) (hR : RowAt K H v ns) (h14 : r ∈ RR) (hl : ns.length = (placesL r).length) (hd : ∀ n ∈ ns, n.1.length ≤ 1000)
    (k : ∀ D H' ks, Same H H' → H' D = some (.lst (rf ks)) → TL K H' ks → ks.map (·.2) = filL r ns ns.length → Q (.ref D) H') :
    tLc (iZipM K (tCons (tVar 3) (tCons (tVar 7) tNil))) (gTup K 2 (gCons (gName 21) (gCons (gName 14) gNil))) (tNot (tTest (tCall (spLZ K) [] E0 (tCons (tVar 14) tNil)))) (tVar 21) [21, 14] [y0, y1, y2, some (.ref pl0), y4, y5, y6, some v, y8, y9, y10, y11, y12, y13, y14, y15, y16, y17, y18, y19, y20, y21, y22] H Q := by
  obtain ⟨kp, hk1, hk2, hk3⟩ := id hP
  obtain ⟨q, us, rfl, hq, hN⟩ := hR
  have hr16 := rr_pl0 r h14
  have hkl : (rf kp).length = (placesL r).length := by rw [← hk2, List.length_map, List.length_map]
  have hul : us.length = (rf kp).length := by rw [hN.1, hl, hkl]
  refine ⟨_, rfl, _, rfl, pl0, q, rf kp, us, rfl, SqL.of hk1, hq, fun D hD => ?_⟩
  refine lc_it (walk_zipM (K := K) (a := pl0) (b := q) (xs := rf kp) (ys := us) hul) (fun i H2 => Same H H2 ∧ ∃ ks, H2 D = some (.lst (rf ks)) ∧ TL K H2 ks ∧ ks.map (·.2) = filL r ns i) ⟨same_upd hD, [], upd_same, tl_nil, by simp [filL]⟩ (fun i H2 _ ⟨s2, _⟩ => ⟨SqL.of (s2 _ _ hk1), s2.tup hq⟩) ?_ ?_
  · rintro i x H2 H3 hi ⟨s2, ks, hD2, tk, ek⟩ ⟨Tt, c1, y, rfl, hT, rfl, ec, ey⟩
    obtain ⟨qq, rfl, hqq⟩ := getR ec
    obtain ⟨n, hn, hnum⟩ := hN.get ey
    have hqm := List.mem_of_getElem? hqq
    have hq2 : (placesL r)[i]? = some qq.2 := by rw [← hk2, List.getElem?_map, hqq]; rfl
    have s3 : Same H (upd H2 Tt (.tup [.ref qq.1, y])) := same_new s2 hT
    have t23 : Same H2 (upd H2 Tt (.tup [.ref qq.1, y])) := same_upd hT
    have ez : ((placesL r).zip ns)[i]? = some (qq.2, n) := by
      rw [List.getElem?_zip_eq_some]
      exact ⟨hq2, hn⟩
    refine ⟨Tt, _, rfl, SqT.of upd_same, rfl, _, _, rfl, _, _, rfl, rfl, rfl, ?_⟩
    refine ⟨_, rfl, y, n, rfl, s3.num hnum, hd n (List.mem_of_getElem? hn), fun H4 s4 => ?_⟩
    refine ⟨_, rfl, ?_⟩
    have kl : ks.length ≤ i := by
      have := congrArg List.length ek
      rw [List.length_map] at this
      rw [this]
      unfold filL
      exact Nat.le_trans (List.length_filterMap_le _ _) (List.length_take_le _ _)
    have hD3 := s4 _ _ (t23 _ _ hD2)
    have il := ltL hq2
    refine ite2 (fun c => ?_) (fun c => ?_)
    · have c1 : someN n.1 = true := by simpa using c
      refine ⟨_, rfl, _, hD3, sl_lt (by rw [List.length_map]; omega), same_at (s3.trans s4) hD, ks ++ [(qq.1, qq.2)], ?_, tl_at (tl_snoc ((t23.trans s4).tl tk) ((s3.trans s4).tup (hk3 qq hqm))) hD3, ?_⟩
      · rw [upd_same, rf_snoc]
      · rw [List.map_append, ek]
        unfold filL
        rw [takeS ez, List.filterMap_append]
        simp [c1]
    · have c1 : someN n.1 = false := by simpa using c
      refine ⟨s3.trans s4, ks, hD3, (t23.trans s4).tl tk, ?_⟩
      rw [ek]
      unfold filL
      rw [takeS ez, List.filterMap_append]
      simp [c1]
  · rintro H2 ⟨s2, ks, hD2, tk, ek⟩
    rw [hkl, ← hl] at ek
    exact k D H2 ks s2 hD2 tk ek
theorem fil_lc9 {K : PySem.W.Frag} {v : V} {pl0 : Addr} {r : List Int} {ns : List Num} {H : Hp} {Q : VK} {y0 y1 y2 y4 y5 y6 y7 y8 y10 y11 y12 y13 y14 y15 y16 y17 y18 y19 y20 y21 y22 : Option V} (hP : PlL K H pl0 (placesL r)) (hR : RowAt K H v ns) (h14 : r ∈ RR) (hl : ns.length = (placesL r).length) (hd : ∀ n ∈ ns, n.1.length ≤ 1000)
    (k : ∀ D H' ks, Same H H' → H' D = some (.lst (rf ks)) → TL K H' ks → ks.map (·.2) = filL r ns ns.length → Q (.ref D) H') :
    tLc (iZipM K (tCons (tVar 3) (tCons (tVar 9) tNil))) (gTup K 2 (gCons (gName 21) (gCons (gName 14) gNil))) (tNot (tTest (tCall (spLZ K) [] E0 (tCons (tVar 14) tNil)))) (tVar 21) [21, 14] [y0, y1, y2, some (.ref pl0), y4, y5, y6, y7, y8, some v, y10, y11, y12, y13, y14, y15, y16, y17, y18, y19, y20, y21, y22] H Q := by
  obtain ⟨kp, hk1, hk2, hk3⟩ := id hP
  obtain ⟨q, us, rfl, hq, hN⟩ := hR
  have hr16 := rr_pl0 r h14
  have hkl : (rf kp).length = (placesL r).length := by rw [← hk2, List.length_map, List.length_map]
  have hul : us.length = (rf kp).length := by rw [hN.1, hl, hkl]
  refine ⟨_, rfl, _, rfl, pl0, q, rf kp, us, rfl, SqL.of hk1, hq, fun D hD => ?_⟩
  refine lc_it (walk_zipM (K := K) (a := pl0) (b := q) (xs := rf kp) (ys := us) hul) (fun i H2 => Same H H2 ∧ ∃ ks, H2 D = some (.lst (rf ks)) ∧ TL K H2 ks ∧ ks.map (·.2) = filL r ns i) ⟨same_upd hD, [], upd_same, tl_nil, by simp [filL]⟩ (fun i H2 _ ⟨s2, _⟩ => ⟨SqL.of (s2 _ _ hk1), s2.tup hq⟩) ?_ ?_
  · rintro i x H2 H3 hi ⟨s2, ks, hD2, tk, ek⟩ ⟨Tt, c1, y, rfl, hT, rfl, ec, ey⟩
    obtain ⟨qq, rfl, hqq⟩ := getR ec
    obtain ⟨n, hn, hnum⟩ := hN.get ey
    have hqm := List.mem_of_getElem? hqq
    have hq2 : (placesL r)[i]? = some qq.2 := by rw [← hk2, List.getElem?_map, hqq]; rfl
    have s3 : Same H (upd H2 Tt (.tup [.ref qq.1, y])) := same_new s2 hT
    have t23 : Same H2 (upd H2 Tt (.tup [.ref qq.1, y])) := same_upd hT
    have ez : ((placesL r).zip ns)[i]? = some (qq.2, n) := by
      rw [List.getElem?_zip_eq_some]
      exact ⟨hq2, hn⟩
    refine ⟨Tt, _, rfl, SqT.of upd_same, rfl, _, _, rfl, _, _, rfl, rfl, rfl, ?_⟩
    refine ⟨_, rfl, y, n, rfl, s3.num hnum, hd n (List.mem_of_getElem? hn), fun H4 s4 => ?_⟩
    refine ⟨_, rfl, ?_⟩
    have kl : ks.length ≤ i := by
      have := congrArg List.length ek
      rw [List.length_map] at this
      rw [this]
      unfold filL
      exact Nat.le_trans (List.length_filterMap_le _ _) (List.length_take_le _ _)
    have hD3 := s4 _ _ (t23 _ _ hD2)
    have il := ltL hq2
    refine ite2 (fun c => ?_) (fun c => ?_)
    · have c1 : someN n.1 = true := by simpa using c
      refine ⟨_, rfl, _, hD3, sl_lt (by rw [List.length_map]; omega), same_at (s3.trans s4) hD, ks ++ [(qq.1, qq.2)], ?_, tl_at (tl_snoc ((t23.trans s4).tl tk) ((s3.trans s4).tup (hk3 qq hqm))) hD3, ?_⟩
      · rw [upd_same, rf_snoc]
      · rw [List.map_append, ek]
        unfold filL
        rw [takeS ez, List.filterMap_append]
        simp [c1]
    · have c1 : someN n.1 = false := by simpa using c
      refine ⟨s3.trans s4, ks, hD3, (t23.trans s4).tl tk, ?_⟩
      rw [ek]
      unfold filL
      rw [takeS ez, List.filterMap_append]
      simp [c1]
  · rintro H2 ⟨s2, ks, hD2, tk, ek⟩
    rw [hkl, ← hl] at ek
    exact k D H2 ks s2 hD2 tk ek
section
variable {P : Program} {w : World} {K : PySem.W.Frag} {mg : Str → Option Value} {base : Heap} {f : Addr} {cdv : Value} {A : Around} {outer : List Env} {s0 : Shared} {H0 : Hp} {E : XK}
theorem call_fil {K : PySem.W.Frag} {i j : Nat} {σ : L2.St} {H : Hp} {v u : V} {r : List Int} {ns : List Num} {Q : VK} (e1 : σ[i]? = some (some v)) (e2 : σ[j]? = some (some u)) (h1 : TupI K H v r) (h2 : RowAt K H u ns) (h3 : r ∈ RR) (h4 : RowG r ns) (q : ∀ v H', Same H H' → PlT K H' v (filL r ns ns.length) → Q v H') :
    tCall (spFilled K) [] E0 (tCons (tVar i) (tCons (tVar j) tNil)) σ H Q := ⟨_, e1, _, e2, _, _, r, ns, rfl, h1, h2, h3, h4, q⟩
theorem call_snd {K : PySem.W.Frag} {i j : Nat} {σ : L2.St} {H : Hp} {v u : V} {r : List Int} {ns : List Num} {Q : VK} (e1 : σ[i]? = some (some v)) (e2 : σ[j]? = some (some u)) (h1 : TupI K H v r) (h2 : RowAt K H u ns) (h3 : r ∈ RR) (h4 : RowG r ns) (q : ∀ v H', Same H H' → PlT K H' v (filL r (voL r ns) (voL r ns).length) → Q v H') :
    tCall (spSnd K) [] E0 (tCons (tVar i) (tCons (tVar j) tNil)) σ H Q := ⟨_, e1, _, e2, _, _, r, ns, rfl, h1, h2, h3, h4, q⟩
theorem call_filK {K : PySem.W.Frag} {i j : Nat} {σ : L2.St} {H : Hp} {v u : V} {r : List Int} {ns : List Num} {Q : VK} (e1 : σ[i]? = some (some v)) (e2 : σ[j]? = some (some u)) (h1 : TupI K H v r) (h2 : RowAt K H u ns) (h3 : r ∈ RR) (h4 : RowG r ns) (q : ∀ v H', Same H H' → PlT K H' v (filL r ns ns.length) → Q v H') :
    tCallK (spFilled K) g2V E0 tNil (tCons (tVar j) (tCons (tVar i) tNil)) σ H Q := ⟨_, e2, _, e1, _, _, r, ns, rfl, h1, h2, h3, h4, q⟩
theorem call_sndK {K : PySem.W.Frag} {i j : Nat} {σ : L2.St} {H : Hp} {v u : V} {r : List Int} {ns : List Num} {Q : VK} (e1 : σ[i]? = some (some v)) (e2 : σ[j]? = some (some u)) (h1 : TupI K H v r) (h2 : RowAt K H u ns) (h3 : r ∈ RR) (h4 : RowG r ns) (q : ∀ v H', Same H H' → PlT K H' v (filL r (voL r ns) (voL r ns).length) → Q v H') :
    tCallK (spSnd K) g2V E0 tNil (tCons (tVar j) (tCons (tVar i) tNil)) σ H Q := ⟨_, e2, _, e1, _, _, r, ns, rfl, h1, h2, h3, h4, q⟩
theorem part18 (Z : Fs P w K mg base) (B : Bl mg) (hA : A.guards = some []) (hr : Room 8 (A.deeper (envOfC "law" (defScope sLaw) s0.heap.objs.size f cdv))) :
    ∃ t, PSs (cxOf CX0 P w K mg base lawN "law" (defScope sLaw) f cdv A outer s0 H0 E).nox (lawB.drop 18) t ∧ ∀ (k : Ends) (a d l : Addr) (vr vrow vdue vback : V) (pl0 rg : Addr) (r : List Int) (ns : List Num) (x6 x8 x11 x12 x13 x14 x15 x16 x17 x18 x19 x20 x21 x22 : Option V) (H : Hp),
      Hand K d l vr pl0 rg r H → RowAt K H vrow ns → RowAt K H vdue (voL r ns) → RowAt K H vback (rbL r ns) → r ∈ RR → RowS r 6 ns → AbsR (2 ^ 31) ns → (∀ H', k.rt (.bl true) H') →
      t k [some (.ref a), some (.ref d), some vr, some (.ref pl0), some (.int (ordL r)), some (.ref rg), x6, some vrow, x8, some vdue, some vback, x11, x12, x13, x14, x15, x16, x17, x18, x19, x20, x21, x22] H := by
  have hu := hu_of hr
  have cr : CallR (Cx.nox (cxOf CX0 P w K mg base lawN "law" (defScope sLaw) f cdv A outer s0 H0 E)) (.builtin "repr") (rRepr K) := call_repr hA hr.units
  obtain ⟨t21, p21, k21⟩ := part21 (P := P) (w := w) (K := K) (mg := mg) (base := base) (f := f) (cdv := cdv) (A := A) (outer := outer) (s0 := s0) (H0 := H0) (E := E) Z B hA hr
  refine ⟨_, (pss_cons (ps_set (i := 17) scLaw.nd rfl (Or.inl rfl) (pe_tup (pa_cons (pe_callTy call_tuple_of (by rfl) (B "tuple" (by decide +kernel)) (by decide +kernel) (pa_cons
        (pe_lc (own := [("x", 21), ("item", 14)]) (g := gTup K 2 (gCons (gName 21) (gCons (gName 14) gNil))) (tt := tNot (tTest (tCall (spLZ K) [] E0 (tCons (tVar 14) tNil)))) (te := tVar 21) rfl scLaw.nd
          (pi_zipM (by rfl) (B "zip" (by decide +kernel)) (pa_cons (pv 3) (pa_cons (pv 7) pa_nil))) (blkOk_by (own := [("x", 21), ("item", 14)]) (N := lawN) (sc := defScope sLaw) (by decide +kernel))
          (fun _ _ _ _ _ => pg_tup rfl (pgs_cons (pg_name (i := 21) scLaw.nd rfl (Or.inl rfl)) (pgs_cons (pg_name (i := 14) scLaw.nd rfl (Or.inl rfl)) pgs_nil))) (fun _ _ _ _ _ => pts_one (pt_not (pt_val (pe_call Z.f_l_is_zero.G (hr.mono (by decide)) rfl Z.f_l_is_zero.g Z.f_l_is_zero.F.kp Z.f_l_is_zero.b .nil pass0 (pa_cons (pv 14) pa_nil)))))
          (fun _ _ _ _ _ => pv 21)) pa_nil)) (pa_cons (pe_callTy call_tuple_of (by rfl) (B "tuple" (by decide +kernel)) (by decide +kernel) (pa_cons
        (pe_lc (own := [("x", 21), ("item", 14)]) (g := gTup K 2 (gCons (gName 21) (gCons (gName 14) gNil))) (tt := tNot (tTest (tCall (spLZ K) [] E0 (tCons (tVar 14) tNil)))) (te := tVar 21) rfl scLaw.nd
          (pi_zipM (by rfl) (B "zip" (by decide +kernel)) (pa_cons (pv 3) (pa_cons (pv 9) pa_nil))) (blkOk_by (own := [("x", 21), ("item", 14)]) (N := lawN) (sc := defScope sLaw) (by decide +kernel))
          (fun _ _ _ _ _ => pg_tup rfl (pgs_cons (pg_name (i := 21) scLaw.nd rfl (Or.inl rfl)) (pgs_cons (pg_name (i := 14) scLaw.nd rfl (Or.inl rfl)) pgs_nil))) (fun _ _ _ _ _ => pts_one (pt_not (pt_val (pe_call Z.f_l_is_zero.G (hr.mono (by decide)) rfl Z.f_l_is_zero.g Z.f_l_is_zero.F.kp Z.f_l_is_zero.b .nil pass0 (pa_cons (pv 14) pa_nil)))))
          (fun _ _ _ _ _ => pv 21)) pa_nil)) pa_nil))))
    (pss_cons (ps_if (pt_cmpR op_ne (pe_callB cr (by rfl) (B "repr" (by decide +kernel)) (by decide +kernel) (pa_cons (pe_tup (pa_cons (pe_call Z.f_filled.G hr (by rfl) Z.f_filled.g Z.f_filled.F.kp Z.f_filled.b .nil pass0 (pa_cons (pv 2) (pa_cons (pv 7) pa_nil)))
          (pa_cons (pe_call Z.f_sounding.G hr (by rfl) Z.f_sounding.g Z.f_sounding.F.kp Z.f_sounding.b .nil pass0 (pa_cons (pv 2) (pa_cons (pv 7) pa_nil))) pa_nil))) pa_nil))
        (pe_callB cr (by rfl) (B "repr" (by decide +kernel)) (by decide +kernel) (pa_cons (pv 17) pa_nil)) (nomark _)) (pss_one (ps_ret pe_bl)) pss_nil)
    (pss_cons (ps_if (pt_cmpR op_ne (pe_callB cr (by rfl) (B "repr" (by decide +kernel)) (by decide +kernel) (pa_cons (pe_tup (pa_cons (pe_callK0 Z.f_filled.G hr (by rfl) Z.f_filled.g Z.f_filled.F.kp (kb_filled Z.f_filled.F) pass0 (pk_cons (pv 9) (pk_cons (pv 2) pk_nil)))
          (pa_cons (pe_callK0 Z.f_sounding.G hr (by rfl) Z.f_sounding.g Z.f_sounding.F.kp (kb_sounding Z.f_sounding.F) pass0 (pk_cons (pv 10) (pk_cons (pv 2) pk_nil))) pa_nil))) pa_nil))
        (pe_callB cr (by rfl) (B "repr" (by decide +kernel)) (by decide +kernel) (pa_cons (pe_tup (pa_cons (pe_ix ix_tup (pv 17) pe_int (fun _ _ => rfl)) (pa_cons (pe_ix ix_tup (pv 17) pe_int (fun _ _ => rfl)) pa_nil))) pa_nil)) (nomark _)) (pss_one (ps_ret pe_bl)) pss_nil) p21))),
    fun k a d l vr vrow vdue vback pl0 rg r ns x6 x8 x11 x12 x13 x14 x15 x16 x17 x18 x19 x20 x21 x22 H hd hR hV hBk h14 hS hAb kq => ?_⟩
  have l16 := (pl_pos r h14).2
  have hVs := rowS_vo h14 hS (by decide)
  have hBs := rowS_rb h14 hS (by decide)
  have gR := hS.g h14 (by decide) (by decide)
  have gV := hVs.g h14 (by decide) (by decide)
  have gB := hBs.g h14 (by have := (pl_pos r h14).1; omega) (by omega)
  have few : ∀ {D : Int} {ms : List Num}, RowS r D ms → ∀ n ∈ ms, n.1.length ≤ 1000 := fun h n hn => by
    rw [(h.c.num n hn).len]
    have := dg_le h14
    omega
  have two : ∀ {H : Hp} {q : Addr} {v u : V} {ps qs : List (List Int)}, SqT K H q [v, u] → PlT K H v ps → PlT K H u qs → Dp K H (.ref q) (.tuple [plD ps, plD qs]) := fun g h1 h2 => .tup g (.cons (plt_dp h1) (.cons (plt_dp h2) .nil))
  have ok2 : ∀ {as bs : List Num} {i j : Nat}, OkD 40 50000 (.tuple [plD (filL r as i), plD (filL r bs j)]) := by
    intro as bs i j
    refine okd_list (fun x hx => ?_) (by show 2 ≤ 3; decide)
    rcases List.mem_cons.mp hx with rfl | hx
    · exact okd_fil h14 _ _
    · rw [List.mem_singleton.mp hx]
      exact okd_fil h14 _ _
  -- full
  refine seq_asg ?_
  refine tup2_ok ?_
  refine cb1_ok ?_
  refine fil_lc7 hd.P.1 hR h14 hS.c.len (few hS) fun D1 H1 ks1 s1 hD1 tk1 ek1 => ?_
  refine ⟨D1, _, rfl, .inl ⟨SqL.of hD1, fun t1 ht1 => ?_⟩⟩
  have sa : Same H1 (upd H1 t1 (.tup (rf ks1))) := same_upd ht1
  have ga : PlT K (upd H1 t1 (.tup (rf ks1))) (.ref t1) (filL r ns ns.length) := ⟨t1, ks1, rfl, SqT.of upd_same, ek1, sa.tl tk1⟩
  generalize upd H1 t1 (.tup (rf ks1)) = H2 at sa ga
  have s2 := s1.trans sa
  refine cb1_ok ?_
  refine fil_lc9 (hd.same s2).P.1 (s2.row hV) h14 hVs.c.len (few hVs) fun D3 H3 ks3 s3 hD3 tk3 ek3 => ?_
  refine ⟨D3, _, rfl, .inl ⟨SqL.of hD3, fun t3 ht3 => ?_⟩⟩
  have sb : Same H3 (upd H3 t3 (.tup (rf ks3))) := same_upd ht3
  have gb : PlT K (upd H3 t3 (.tup (rf ks3))) (.ref t3) (filL r (voL r ns) (voL r ns).length) := ⟨t3, ks3, rfl, SqT.of upd_same, ek3, sb.tl tk3⟩
  generalize upd H3 t3 (.tup (rf ks3)) = H4 at sb gb
  have s24 := s3.trans sb
  refine ⟨by show 2 ≤ sizeLine; decide, fun q hq => ?_⟩
  have sq : Same H4 (upd H4 q (.tup [.ref t1, .ref t3])) := same_upd hq
  have gq : SqT K (upd H4 q (.tup [.ref t1, .ref t3])) q [.ref t1, .ref t3] := SqT.of upd_same
  generalize upd H4 q (.tup [.ref t1, .ref t3]) = H5 at sq gq
  have s5 := (s2.trans s24).trans sq
  have ga5 := (s24.trans sq).plt ga
  have gb5 := sq.plt gb
  have hd5 := hd.same s5
  -- filled, sounding
  refine cb1_ok ?_
  refine tup2_ok ?_
  refine call_fil rfl rfl hd5.R (s5.row hR) h14 gR fun v1 H6 s6 hv1 => ?_
  refine call_snd rfl rfl (s6.tupI hd5.R) ((s5.trans s6).row hR) h14 gR fun v2 H7 s7 hv2 => ?_
  refine ⟨by show 2 ≤ sizeLine; decide, fun q2 hq2 => ?_⟩
  have sq2 : Same H7 (upd H7 q2 (.tup [v1, v2])) := same_upd hq2
  have gq2 : SqT K (upd H7 q2 (.tup [v1, v2])) q2 [v1, v2] := SqT.of upd_same
  generalize upd H7 q2 (.tup [v1, v2]) = H8 at sq2 gq2
  have s58 := (s6.trans s7).trans sq2
  refine rep_ok (two gq2 ((s7.trans sq2).plt hv1) (sq2.plt hv2)) ok2 ?_
  refine cb1_ok ?_
  refine ⟨_, rfl, ?_⟩
  refine rep_ok (two (s58.tup gq) (s58.plt ga5) (s58.plt gb5)) ok2 ?_
  refine ne_same ?_
  refine ite2 (fun c => absurd c (by decide)) fun _ => ?_
  -- and of due and back
  have hd8 := hd5.same s58
  have s08 := s5.trans s58
  refine next_ifS ?_
  refine cb1_ok ?_
  refine tup2_ok ?_
  refine call_filK rfl rfl hd8.R (s08.row hV) h14 gV fun v3 H9 s9 hv3 => ?_
  refine call_sndK rfl rfl (s9.tupI hd8.R) ((s08.trans s9).row hBk) h14 gB fun v4 H10 s10 hv4 => ?_
  refine ⟨by show 2 ≤ sizeLine; decide, fun q3 hq3 => ?_⟩
  have sq3 : Same H10 (upd H10 q3 (.tup [v3, v4])) := same_upd hq3
  have gq3 : SqT K (upd H10 q3 (.tup [v3, v4])) q3 [v3, v4] := SqT.of upd_same
  generalize upd H10 q3 (.tup [v3, v4]) = H11 at sq3 gq3
  rw [vo_rb h14 hS.c] at hv4
  have s8B := (s9.trans s10).trans sq3
  refine rep_ok (two gq3 ((s10.trans sq3).plt hv3) (sq3.plt hv4)) ok2 ?_
  refine cb1_ok ?_
  refine tup2_ok ?_
  have gqB := (s58.trans s8B).tup gq
  refine ⟨_, rfl, q, _, ((1 : Nat) : Int), _, rfl, rfl, gqB, atI_nat (j := 1) rfl, _, rfl, q, _, ((0 : Nat) : Int), _, rfl, rfl, gqB, atI_nat (j := 0) rfl, by show 2 ≤ sizeLine; decide, fun q4 hq4 => ?_⟩
  have sq4 : Same H11 (upd H11 q4 (.tup [.ref t3, .ref t1])) := same_upd hq4
  have gq4 : SqT K (upd H11 q4 (.tup [.ref t3, .ref t1])) q4 [.ref t3, .ref t1] := SqT.of upd_same
  generalize upd H11 q4 (.tup [.ref t3, .ref t1]) = H12 at sq4 gq4
  have s5C := (s58.trans s8B).trans sq4
  refine rep_ok (two gq4 (s5C.plt gb5) (s5C.plt ga5)) ok2 ?_
  refine ne_same ?_
  refine ite2 (fun c => absurd c (by decide)) fun _ => ?_
  have sA := s5.trans s5C
  exact k21 k a d l vr vrow vdue pl0 rg r ns _ _ _ _ _ _ _ _ _ _ _ _ _ _ _ H12 (hd.same sA) (sA.row hR) (sA.row hV) h14 hS hAb kq
end
end K08

/-! The law: the origin's voice, sums and multiples. -/
namespace K08
open PySem PySem.Spec PyProof.Rows L2
theorem red_nil {dv : List Int} (hd : 1 ≤ dv.length) : redL [] dv = List.replicate (dv.length - 1) 0 := by
  refine ext_getD (by rw [redL_len' hd]; simp) fun j hj => ?_
  rw [redL_len' hd] at hj
  rw [red_ph hd hj, ph_low _ _ (by simp), List.getD_eq_getElem?_getD, List.getD_eq_getElem?_getD]
  simp [List.getElem?_replicate, hj]
theorem tot_dvd {r : List Int} {ns : List Num} (C : RowC r ns) (i : Nat) (hi : i ≤ ns.length) : (totL r (ns.take i)).2 ∣ levB ns := by
  have hB : 1 ≤ levB ns := levB_pos fun n hn => (C.num n hn).pos
  have e : totL r (ns.take i) = lowL (vecL (dg r) (fun k => sm i (fun a => wv (levT ns) a k))) (levB ns) := by
    refine Rp_eq hB (numC_tot C.num i) (numC_low hB (by unfold vecL; simp)) (Rp_tot C i hi) (Rp_of_low hB fun k hk => ?_)
    rw [vecL_get hk]
  rw [e]
  exact low_dvd _ _ hB
theorem tot_snoc {r : List Int} {ns : List Num} {i : Nat} {n : Num} (h : ns[i]? = some n) : totL r (ns.take (i + 1)) = sumN (totL r (ns.take i)) n 1 := by
  rw [takeS h]
  unfold totL
  rw [List.foldl_append]
  rfl
theorem numOk_of {r : List Int} (hr : r ∈ RR) {n : Num} (c : NumC (dg r) n) (h : n.2 ≤ 1000) : NumOk (ordL r) n := ⟨by rw [c.len, (poly_len hr).2.1], c.pos, h, c.low⟩
theorem good_c {r : List Int} (hr : r ∈ RR) {n : Num} (g : GoodN (ordL r) n) : NumC (dg r) n := ⟨by rw [g.ok.len, ← (poly_len hr).2.1], g.ok.pos, g.ok.low⟩
theorem nearL_take {r : List Int} {c : Num} {xs ys : List Num} {i : Nat} {x y : Num} (h1 : xs[i]? = some x) (h2 : ys[i]? = some y) : (nearL r c xs ys).take (i + 1) = (nearL r c xs ys).take i ++ [sumN x (prodL (ordL r) c y) 1] := by
  refine takeS ?_
  unfold nearL
  rw [List.getElem?_zipWith, h1, h2]
theorem call_voK {K : PySem.W.Frag} {i j : Nat} {σ : L2.St} {H : Hp} {v u : V} {r : List Int} {ns : List Num} {Q : VK} (e1 : σ[i]? = some (some v)) (e2 : σ[j]? = some (some u)) (h1 : TupI K H v r) (h2 : RowAt K H u ns) (h3 : r ∈ RR) (h4 : RowG r ns) (q : ∀ v H', Same H H' → RowAt K H' v (voL r ns) → Q v H') :
    tCallK (spVoices K) g2V E0 tNil (tCons (tVar j) (tCons (tVar i) tNil)) σ H Q := ⟨_, e2, _, e1, _, _, r, ns, rfl, h1, h2, h3, h4, q⟩
theorem call_vo {K : PySem.W.Frag} {i j : Nat} {σ : L2.St} {H : Hp} {v u : V} {r : List Int} {ns : List Num} {Q : VK} (e1 : σ[i]? = some (some v)) (e2 : σ[j]? = some (some u)) (h1 : TupI K H v r) (h2 : RowAt K H u ns) (h3 : r ∈ RR) (h4 : RowG r ns) (q : ∀ v H', Same H H' → RowAt K H' v (voL r ns) → Q v H') :
    tCall (spVoices K) [] E0 (tCons (tVar i) (tCons (tVar j) tNil)) σ H Q := ⟨_, e1, _, e2, _, _, r, ns, rfl, h1, h2, h3, h4, q⟩
section
variable {P : Program} {w : World} {K : PySem.W.Frag} {mg : Str → Option Value} {base : Heap} {f : Addr} {cdv : Value} {A : Around} {outer : List Env} {s0 : Shared} {H0 : Hp} {E : XK}
theorem part12 (Z : Fs P w K mg base) (B : Bl mg) (hA : A.guards = some []) (hr : Room 8 (A.deeper (envOfC "law" (defScope sLaw) s0.heap.objs.size f cdv))) :
    ∃ t, PSs (cxOf CX0 P w K mg base lawN "law" (defScope sLaw) f cdv A outer s0 H0 E).nox (lawB.drop 12) t ∧ ∀ (k : Ends) (a d l : Addr) (vr vrow voth vdue vback : V) (pl0 rg : Addr) (r : List Int) (ns os : List Num) (x6 x11 x12 x13 x14 x15 x16 x17 x18 x19 x20 x21 x22 : Option V) (H : Hp),
      Hand K d l vr pl0 rg r H → RowAt K H vrow ns → RowAt K H voth os → RowAt K H vdue (voL r ns) → RowAt K H vback (rbL r ns) → r ∈ RR → RowS r 6 ns → AbsR (2 ^ 31) ns → RowS r 6 os → AbsR 3 os → (∀ H', k.rt (.bl true) H') →
      t k [some (.ref a), some (.ref d), some vr, some (.ref pl0), some (.int (ordL r)), some (.ref rg), x6, some vrow, some voth, some vdue, some vback, x11, x12, x13, x14, x15, x16, x17, x18, x19, x20, x21, x22] H := by
  have hu := hu_of hr
  have cr : CallR (Cx.nox (cxOf CX0 P w K mg base lawN "law" (defScope sLaw) f cdv A outer s0 H0 E)) (.builtin "repr") (rRepr K) := call_repr hA hr.units
  obtain ⟨t18, p18, k18⟩ := part18 (P := P) (w := w) (K := K) (mg := mg) (base := base) (f := f) (cdv := cdv) (A := A) (outer := outer) (s0 := s0) (H0 := H0) (E := E) Z B hA hr
  refine ⟨_, (pss_cons (ps_asg (pe_tup (pa_cons (pe_call Z.f_l_made.G (hr.mono (by decide)) (by rfl) Z.f_l_made.g Z.f_l_made.F.kp Z.f_l_made.b .nil pass0 (pa_cons (pv 5) (pa_cons (pe_tup pa_nil) (pa_cons pe_int pa_nil))))
        (pa_cons (pe_call Z.f_l_number.G (hr.mono (by decide)) (by rfl) Z.f_l_number.g Z.f_l_number.F.kp Z.f_l_number.b .nil pass0 (pa_cons (pv 1) (pa_cons (pv 5) (pa_cons pe_int pa_nil)))) pa_nil)))
        (pg_tup rfl (pgs_cons (pg_name (i := 12) scLaw.nd rfl (Or.inl rfl)) (pgs_cons (pg_name (i := 13) scLaw.nd rfl (Or.inr rfl)) pgs_nil))))
    (pss_cons (ps_for PassesOwn.never rfl (pi_tup (pv 8)) (pg_name (i := 14) scLaw.nd rfl (Or.inl rfl)) (pss_one (ps_set (i := 12) scLaw.nd rfl (Or.inl rfl) (pe_call Z.f_l_plus.G (hr.mono (by decide)) (by rfl) Z.f_l_plus.g Z.f_l_plus.F.kp Z.f_l_plus.b .nil pass0 (pa_cons (pv 5) (pa_cons (pv 12) (pa_cons (pv 14) (pa_cons pe_int pa_nil))))))))
    (pss_cons (ps_if (pt_cmpR op_ne (pe_callB cr (by rfl) (B "repr" (by decide +kernel)) (by decide +kernel) (pa_cons (pe_call Z.f_voice.G hr (by rfl) Z.f_voice.g Z.f_voice.F.kp Z.f_voice.b .nil pass0 (pa_cons (pv 2) (pa_cons (pv 8) (pa_cons (pe_ix ix_list (pv 3) pe_int (fun _ _ => rfl)) pa_nil)))) pa_nil))
        (pe_callB cr (by rfl) (B "repr" (by decide +kernel)) (by decide +kernel) (pa_cons (pv 12) pa_nil)) (nomark _)) (pss_one (ps_ret pe_bl)) pss_nil)
    (pss_cons (ps_set (i := 15) scLaw.nd rfl (Or.inl rfl) (pe_callTy call_tuple_of (by rfl) (B "tuple" (by decide +kernel)) (by decide +kernel) (pa_cons
        (pe_lc (own := [("x", 21), ("y", 22)]) (g := gTup K 2 (gCons (gName 21) (gCons (gName 22) gNil))) (tt := tYes) (te := tCall (spPlus K) [] E0 (tCons (tVar 4) (tCons (tVar 21) (tCons (tCall (spLTimes K) [] E0 (tCons (tVar 5) (tCons (tVar 13) (tCons (tVar 22) tNil)))) tNil)))) rfl scLaw.nd
          (RZ.pi_zipA rfl (B "zip" (by decide +kernel)) (pa_cons (pv 7) (pa_cons (pv 8) pa_nil))) (blkOk_by (own := [("x", 21), ("y", 22)]) (N := lawN) (sc := defScope sLaw) (by decide +kernel))
          (fun _ _ _ _ _ => pg_tup rfl (pgs_cons (pg_name (i := 21) scLaw.nd rfl (Or.inl rfl)) (pgs_cons (pg_name (i := 22) scLaw.nd rfl (Or.inl rfl)) pgs_nil))) (fun _ _ _ _ _ => pts_nil)
          (fun _ _ _ _ _ => pe_call Z.f_plus.G (hr.mono (by decide)) rfl Z.f_plus.g Z.f_plus.F.kp Z.f_plus.b .nil pass0 (pa_cons (pv 4) (pa_cons (pv 21) (pa_cons (pe_call Z.f_l_times.G (hr.mono (by decide)) rfl Z.f_l_times.g Z.f_l_times.F.kp Z.f_l_times.b .nil pass0 (pa_cons (pv 5) (pa_cons (pv 13) (pa_cons (pv 22) pa_nil)))) pa_nil))))) pa_nil)))
    (pss_cons (ps_set (i := 16) scLaw.nd rfl (Or.inl rfl) (pe_callTy call_tuple_of (by rfl) (B "tuple" (by decide +kernel)) (by decide +kernel) (pa_cons
        (pe_lc (own := [("x", 21), ("y", 22)]) (g := gTup K 2 (gCons (gName 21) (gCons (gName 22) gNil))) (tt := tYes) (te := tCall (spLPlus K) [] E0 (tCons (tVar 5) (tCons (tVar 21) (tCons (tCall (spTimes K) [] E0 (tCons (tVar 4) (tCons (tVar 13) (tCons (tVar 22) tNil)))) (tCons (tC (.int 1)) tNil))))) rfl scLaw.nd
          (RZ.pi_zipA rfl (B "zip" (by decide +kernel)) (pa_cons (pv 9) (pa_cons (pe_call Z.f_voices.G hr (by rfl) Z.f_voices.g Z.f_voices.F.kp Z.f_voices.b .nil pass0 (pa_cons (pv 2) (pa_cons (pv 8) pa_nil))) pa_nil))) (blkOk_by (own := [("x", 21), ("y", 22)]) (N := lawN) (sc := defScope sLaw) (by decide +kernel))
          (fun _ _ _ _ _ => pg_tup rfl (pgs_cons (pg_name (i := 21) scLaw.nd rfl (Or.inl rfl)) (pgs_cons (pg_name (i := 22) scLaw.nd rfl (Or.inl rfl)) pgs_nil))) (fun _ _ _ _ _ => pts_nil)
          (fun _ _ _ _ _ => pe_call Z.f_l_plus.G (hr.mono (by decide)) rfl Z.f_l_plus.g Z.f_l_plus.F.kp Z.f_l_plus.b .nil pass0 (pa_cons (pv 5) (pa_cons (pv 21) (pa_cons (pe_call Z.f_times.G (hr.mono (by decide)) rfl Z.f_times.g Z.f_times.F.kp Z.f_times.b .nil pass0 (pa_cons (pv 4) (pa_cons (pv 13) (pa_cons (pv 22) pa_nil)))) (pa_cons pe_int pa_nil)))))) pa_nil)))
    (pss_cons (ps_if (pt_cmpR op_ne (pe_callB cr (by rfl) (B "repr" (by decide +kernel)) (by decide +kernel) (pa_cons (pe_call Z.f_voices.G hr (by rfl) Z.f_voices.g Z.f_voices.F.kp Z.f_voices.b .nil pass0 (pa_cons (pv 2) (pa_cons (pv 15) pa_nil))) pa_nil))
        (pe_callB cr (by rfl) (B "repr" (by decide +kernel)) (by decide +kernel) (pa_cons (pv 16) pa_nil)) (nomark _)) (pss_one (ps_ret pe_bl)) pss_nil) p18)))))),
    fun k a d l vr vrow voth vdue vback pl0 rg r ns os x6 x11 x12 x13 x14 x15 x16 x17 x18 x19 x20 x21 x22 H hd hR hO hV hBk h14 hS hAb hSo hAo kq => ?_⟩
  have l16 := (pl_pos r h14).2
  have l1 := (pl_pos r h14).1
  have he := er_in r h14
  have dgl := dg_le h14
  have dgp : (polyL (ordL r)).length - 1 = dg r := rfl
  have pl2 := (poly_len h14).1
  have cO := hSo.c
  have gO := hSo.g h14 (by decide) (by decide)
  have levO := hSo.lev (by decide) os.length
  rw [List.take_length] at levO
  have levR := hS.lev (by decide) ns.length
  rw [List.take_length] at levR
  have hVs := rowS_vo h14 hS (by decide)
  have hVo := rowS_vo h14 hSo (by decide)
  have gV := hVs.g h14 (by decide) (by decide)
  -- total, number
  refine seq_asg ?_
  refine tup2_ok ?_
  refine ⟨_, rfl, by decide, fun z hz => ?_⟩
  have sz : Same H (upd H z (.tup [])) := same_upd hz
  refine ⟨rg, z, [], ordL r, 1, rfl, he, SqL.of (sz.ring hd.G).1, .inr (SqT.of upd_same), by decide, by decide, by decide, fun vt H1 s1 hvt => ?_⟩
  rw [red_nil (by omega), low_one] at hvt
  have s01 := sz.trans s1
  have hd1 := hd.same s01
  refine ⟨_, rfl, _, rfl, d, l, rg, ordL r, rfl, he, hd1.D, hd1.G, fun vn c H2 D2 k2 hvn gc => ?_⟩
  have hd2 := hd1.keeps D2 k2
  have hvt2 := k2.num hd1.D hvt
  have hR2 := k2.row hd1.D (s01.row hR)
  have hO2 := k2.row hd1.D (s01.row hO)
  have hV2 := k2.row hd1.D (s01.row hV)
  have hB2 := k2.row hd1.D (s01.row hBk)
  refine ⟨by show 2 ≤ sizeLine; decide, fun pt hpt => ?_⟩
  have sp : Same H2 (upd H2 pt (.tup [vt, vn])) := same_upd hpt
  refine ⟨pt, _, rfl, SqT.of upd_same, rfl, _, _, rfl, _, _, rfl, rfl, ?_⟩
  generalize upd H2 pt (.tup [vt, vn]) = H3 at sp
  have hd3 := hd2.same sp
  have hvt3 := sp.num hvt2
  have hvn3 := sp.num hvn
  have hR3 := sp.row hR2
  have hO3 := sp.row hO2
  have hV3 := sp.row hV2
  have hB3 := sp.row hB2
  have cc := good_c h14 gc
  have cs : Abs 3 c.1 := fun t ht => by have := gc.small t ht; omega
  have cle : c.2 ≤ 6 := Int.le_of_dvd (by decide) gc.six
  clear hvt2 hvt hvn hR2 hO2 hV2 hB2
  -- the sum of the items
  obtain ⟨ao, uo, rfl, hao, hNo⟩ := id hO3
  refine ⟨_, rfl, ao, rfl, ⟨_, hao⟩, for_tup (K := K) (a := ao) (xs := uo) (fun i σ H4 => ∃ vt u14, σ = [some (.ref a), some (.ref d), some vr, some (.ref pl0), some (.int (ordL r)), some (.ref rg), x6, some vrow, some (.ref ao), some vdue, some vback, x11, some vt, some vn, u14, x15, x16, x17, x18, x19, x20, x21, x22] ∧ Same H3 H4 ∧ NumAt K H4 vt (totL r (os.take i))) ⟨vt, x14, rfl, Same.refl _, hvt3⟩ (fun i σ H4 _ ⟨_, _, _, z, _⟩ => z.tup hao) ?_ ?_⟩
  · rintro i y σ H4 hi ⟨vt', u14, rfl, s4, hvt4⟩
    obtain ⟨n, hn, hnum⟩ := hNo.get hi
    have il := ltL hn
    have ct := numC_tot cO.num i
    have dt := Int.dvd_trans (tot_dvd cO i (by omega)) levO.2.1
    have tl := Int.le_of_dvd (by decide) dt
    have cn := cO.num n (List.mem_of_getElem? hn)
    have nl := Int.le_of_dvd (by decide) (hSo.d n (List.mem_of_getElem? hn))
    have tp := ct.pos
    have np := cn.pos
    refine ⟨_, rfl, _, rfl, _, rfl, rg, _, _, ordL r, _, n, 1, rfl, he, SqL.of (s4.ring hd3.G).1, hvt4, s4.num hnum, by rw [ct.len], by rw [cn.len], by omega, by omega, by omega, by omega, by decide, by decide, fun v' H5 s5 hv' => ?_⟩
    refine ⟨_, _, rfl, s4.trans s5, ?_⟩
    rw [tot_snoc hn]
    exact hv'
  · rintro σ H4 ⟨vt', u14, rfl, s4, hvt4⟩
    rw [hNo.1, List.take_length] at hvt4
    have hd4 := hd3.same s4
    have hO4 := s4.row hO3
    obtain ⟨⟨kp, hk1, hk2, hk3⟩, plL⟩ := id hd4.P
    have hkl : kp.length = (placesL r).length := by rw [← hk2, List.length_map]
    obtain ⟨q0, hq0⟩ : ∃ q, kp[0]? = some q := ⟨kp[0]'(by omega), List.getElem?_eq_getElem (by omega)⟩
    have hqm := List.mem_of_getElem? hq0
    have hq2 := map_get hk2 hq0
    have epl : q0.2 = pl r 0 := by
      show _ = (placesL r).getD 0 []
      rw [List.getD_eq_getElem?_getD, hq2]
      rfl
    have hi0 : (rf kp)[0]? = some (.ref q0.1) := by rw [List.getElem?_map, hq0]; rfl
    refine next_ifS ?_
    refine cb1_ok ?_
    refine ⟨_, rfl, _, rfl, _, rfl, pl0, _, ((0 : Nat) : Int), _, rfl, rfl, SqL.of hk1, atI_nat (j := 0) hi0, _, _, _, r, os, q0.2, rfl, hd4.R, hO4, ⟨q0.1, rfl, hk3 q0 hqm⟩, h14, gO, List.mem_of_getElem? hq2, fun v5 H5 s5 hv5 => ?_⟩
    have ev : voN1 r os q0.2 = totL r os := by
      unfold voN1
      rw [epl]
      exact vo_org h14 cO
    rw [ev] at hv5
    have ct : NumC (dg r) (totL r os) := by
      have := numC_tot cO.num os.length
      rw [List.take_length] at this
      exact this
    have okt : OkD 40 50000 (numD (totL r os)) := by
      have ab := abs_ts h14 (by omega) cO hAo 1 (pl r 0) (b := levB os * 1) (by omega)
      rw [Int.mul_one, vo_org h14 cO] at ab
      have dt := tot_dvd cO os.length (Nat.le_refl _)
      rw [List.take_length] at dt
      have tl := Int.le_of_dvd (by omega) dt
      have tp := ct.pos
      refine (okd_num (fun t ht => Nat.lt_of_le_of_lt (ab t ht) (by decide)) ?_ (by rw [ct.len]; exact dgl)).le (by decide) (by decide)
      have e : (totL r os).2.natAbs < 1001 := by omega
      exact Nat.lt_of_lt_of_le e (by decide)
    obtain ⟨t5, _, rfl, _, _⟩ := id hv5
    refine rep_ok (num_dp hv5) okt ?_
    refine cb1_ok ?_
    obtain ⟨t6, _, rfl, _, _⟩ := id hvt4
    refine ⟨_, rfl, ?_⟩
    refine rep_ok (num_dp (s5.num hvt4)) okt ?_
    refine ne_same ?_
    refine ite2 (fun c => absurd c (by decide)) fun _ => ?_
    have s35 := s4.trans s5
    have hd5 := hd3.same s35
    have hR5 := s35.row hR3
    have hO5 := s35.row hO3
    have hV5 := s35.row hV3
    have hB5 := s35.row hB3
    have hvn5 := s35.num hvn3
    obtain ⟨aw, uw, rfl, haw, hNw⟩ := id hR5
    obtain ⟨ad, ud, rfl, had, hNd⟩ := id hV5
    have hao5 := s35.tup hao
    have hNo5 := s35.nums hNo
    have lw : uo.length = uw.length := by rw [hNo.1, hNw.1, cO.len, hS.c.len]
    have bnd : (∀ t ∈ c.1, -(2 ^ 64) < t ∧ t < 2 ^ 64) := fun t ht => by have := gc.small t ht; omega
    have lc : c.1.length = (polyL (ordL r)).length - 1 := by rw [cc.len]
    have cp := cc.pos
    have num : ∀ {D : Int} {ms : List Num}, RowS r D ms → ∀ (i : Nat) n, ms[i]? = some n → NumC (dg r) n ∧ n.2 ∣ D := fun h i n e => ⟨h.c.num n (List.mem_of_getElem? e), h.d n (List.mem_of_getElem? e)⟩
    -- near
    refine ⟨_, rfl, _, rfl, aw, ao, uw, uo, rfl, .inr ⟨haw, hao5, fun D6 hD6 => ?_⟩⟩
    refine lc_it (walk_zipT (K := K) (a := aw) (b := ao) (xs := uw) (ys := uo) lw) (fun i H6 => Same H5 H6 ∧ ∃ vs, H6 D6 = some (.lst vs) ∧ Nums K H6 vs ((nearL r c ns os).take i)) ⟨same_upd hD6, [], upd_same, nums_nil⟩ (fun i H6 _ ⟨z, _⟩ => ⟨z.tup haw, z.tup hao5⟩) ?_ ?_
    · rintro i z H6 H7 hi ⟨s6, vs, h6, hN6⟩ ⟨Tt, x, y, rfl, hT, rfl, ec, ey⟩
      obtain ⟨nx, hx, hxn⟩ := hNw.get ec
      obtain ⟨ny, hy, hyn⟩ := hNo5.get ey
      have st : Same H6 (upd H6 Tt (.tup [x, y])) := same_upd hT
      have s7 := s6.trans st
      obtain ⟨cx, dx⟩ := num hS i nx hx
      obtain ⟨cy, dy⟩ := num hSo i ny hy
      have lx := Int.le_of_dvd (by decide) dx
      have ly := Int.le_of_dvd (by decide) dy
      have px := cx.pos
      have py := cy.pos
      have cpr := numC_prod h14 cc cy
      have dpr : (prodL (ordL r) c ny).2 ∣ 6 * 6 := Int.dvd_trans (low_dvd _ _ (mul1 cc.pos cy.pos)) (Int.mul_dvd_mul gc.six dy)
      have lpr := Int.le_of_dvd (by decide) dpr
      refine ⟨Tt, _, rfl, SqT.of upd_same, rfl, _, _, rfl, _, _, rfl, rfl, rfl, ?_⟩
      refine ⟨_, rfl, _, rfl, _, rfl, _, rfl, _, rfl, rg, _, _, ordL r, c, ny, rfl, he, SqL.of (s7.ring hd5.G).1, s7.num hvn5, s7.num hyn, lc, by rw [cy.len], by omega, by omega, by omega, by omega, bnd, fun v' H8 s8 hv' => ?_⟩
      refine ⟨ordL r, _, _, nx, prodL (ordL r) c ny, rfl, he, (s7.trans s8).num hxn, hv', numOk_of h14 cx (by omega), numOk_of h14 cpr (by omega), fun v'' H9 s9 hv'' => ?_⟩
      have s69 := (st.trans s8).trans s9
      have h9 := s69 _ _ h6
      have vl : vs.length < sizeLine := sl_lt (by rw [hN6.1, List.length_take]; have := hNw.1; have := hS.c.len; have := ltL hx; omega)
      refine ⟨vs, h9, vl, same_at (s6.trans s69) hD6, vs ++ [v''], upd_same, ?_⟩
      rw [nearL_take hx hy]
      exact (nums_at (s69.nums hN6) h9).snoc (num_at hv'' h9)
    · rintro H6 ⟨s6, vs, h6, hN6⟩
      have nl : uw.length = (nearL r c ns os).length := by rw [hNw.1]; unfold nearL; rw [List.length_zipWith, cO.len, hS.c.len]; omega
      rw [nl, List.take_length] at hN6
      refine ⟨D6, _, rfl, .inl ⟨SqL.of h6, fun Nr hNr => ?_⟩⟩
      have s7 : Same H6 (upd H6 Nr (.tup vs)) := same_upd hNr
      have hn7 : RowAt K (upd H6 Nr (.tup vs)) (.ref Nr) (nearL r c ns os) := ⟨Nr, vs, rfl, SqT.of upd_same, s7.nums hN6⟩
      generalize upd H6 Nr (.tup vs) = H7 at s7 hn7
      have s57 := s6.trans s7
      have hd7 := hd5.same s57
      -- far
      refine ⟨_, rfl, _, rfl, _, rfl, _, _, r, os, rfl, hd7.R, s57.row hO5, h14, gO, fun vv H8 s8 hvv => ?_⟩
      obtain ⟨a2, u2, rfl, ha2, hN2⟩ := hvv
      have s58 := s57.trans s8
      have had8 := s58.tup had
      have hNd8 := s58.nums hNd
      have lw2 : u2.length = ud.length := by rw [hN2.1, hNd.1, hVs.c.len, hVo.c.len]
      refine ⟨ad, a2, ud, u2, rfl, .inr ⟨had8, ha2, fun D9 hD9 => ?_⟩⟩
      refine lc_it (walk_zipT (K := K) (a := ad) (b := a2) (xs := ud) (ys := u2) lw2) (fun i H9 => Same H8 H9 ∧ ∃ vs, H9 D9 = some (.lst vs) ∧ Nums K H9 vs ((nearL r c (voL r ns) (voL r os)).take i)) ⟨same_upd hD9, [], upd_same, nums_nil⟩ (fun i H9 _ ⟨z, _⟩ => ⟨z.tup had8, z.tup ha2⟩) ?_ ?_
      · rintro i z H9 H10 hi ⟨s9, vs2, h9, hN9⟩ ⟨Tt, x, y, rfl, hT, rfl, ec, ey⟩
        obtain ⟨nx, hx, hxn⟩ := hNd8.get ec
        obtain ⟨ny, hy, hyn⟩ := hN2.get ey
        have st : Same H9 (upd H9 Tt (.tup [x, y])) := same_upd hT
        have s10 := s9.trans st
        obtain ⟨cx, dx⟩ := num hVs i nx hx
        obtain ⟨cy, dy⟩ := num hVo i ny hy
        have lx := Int.le_of_dvd (by decide) dx
        have ly := Int.le_of_dvd (by decide) dy
        have px := cx.pos
        have py := cy.pos
        have cpr := numC_prod h14 cc cy
        have dpr : (prodL (ordL r) c ny).2 ∣ 6 * 6 := Int.dvd_trans (low_dvd _ _ (mul1 cc.pos cy.pos)) (Int.mul_dvd_mul gc.six dy)
        have lpr := Int.le_of_dvd (by decide) dpr
        have ppr := cpr.pos
        refine ⟨Tt, _, rfl, SqT.of upd_same, rfl, _, _, rfl, _, _, rfl, rfl, rfl, ?_⟩
        refine ⟨_, rfl, _, rfl, _, rfl, _, rfl, _, rfl, ordL r, _, _, c, ny, rfl, he, (s58.trans s10).num hvn5, s10.num hyn, numOk_of h14 cc (by omega), numOk_of h14 cy (by omega), .inl bnd, fun v' H11 s11 hv' => ?_⟩
        refine ⟨rg, _, _, ordL r, nx, prodL (ordL r) c ny, 1, rfl, he, SqL.of (((s8.trans s10).trans s11).ring hd7.G).1, (s10.trans s11).num hxn, hv', by rw [cx.len], by rw [cpr.len], by omega, by omega, by omega, by omega, by decide, by decide, fun v'' H12 s12 hv'' => ?_⟩
        have s9C := (st.trans s11).trans s12
        have h12 := s9C _ _ h9
        have vl : vs2.length < sizeLine := sl_lt (by rw [hN9.1, List.length_take]; have := len_vo r ns; have := ltL hx; omega)
        refine ⟨vs2, h12, vl, same_at (s9.trans s9C) hD9, vs2 ++ [v''], upd_same, ?_⟩
        rw [nearL_take hx hy]
        exact (nums_at (s9C.nums hN9) h12).snoc (num_at hv'' h12)
      · rintro H9 ⟨s9, vs2, h9, hN9⟩
        have nl2 : ud.length = (nearL r c (voL r ns) (voL r os)).length := by rw [hNd.1]; unfold nearL; rw [List.length_zipWith, len_vo, len_vo]; omega
        rw [nl2, List.take_length] at hN9
        refine ⟨D9, _, rfl, .inl ⟨SqL.of h9, fun Fr hFr => ?_⟩⟩
        have s10 : Same H9 (upd H9 Fr (.tup vs2)) := same_upd hFr
        have hf10 : RowAt K (upd H9 Fr (.tup vs2)) (.ref Fr) (nearL r c (voL r ns) (voL r os)) := ⟨Fr, vs2, rfl, SqT.of upd_same, s10.nums hN9⟩
        generalize upd H9 Fr (.tup vs2) = H10 at s10 hf10
        have s7A := (s8.trans s9).trans s10
        have hd10 := hd7.same s7A
        have hNS := rowS_near h14 cc gc.six hS hSo
        have gN := hNS.g h14 (by decide) (by decide)
        have hFS := rowS_near h14 cc gc.six hVs hVo
        have okF : OkD 40 50000 (rowD (nearL r c (voL r ns) (voL r os))) := by
          refine (okd_row (bd_of h14 hFS (by decide) (by decide) (abs_near h14 cc (D := 6) (C := 6) (by decide) (by decide) (by decide) (by decide) gc.six hVs hVo cs (abs_vo h14 (by omega) hS.c hAb) (abs_vo h14 (by omega) cO hAo)) (by decide)) (by rw [hFS.c.len]; exact l16)).le (by decide) (by decide)
        refine set_ok ?_
        dsimp only
        refine cb1_ok ?_
        refine call_vo rfl rfl hd10.R (s7A.row hn7) h14 gN fun v8 H11 s11 hv8 => ?_
        rw [vo_near h14 cc hS.c cO] at hv8
        obtain ⟨t8, _, rfl, _, _⟩ := id hv8
        refine rep_ok (row_dp hv8) okF ?_
        refine cb1_ok ?_
        refine ⟨_, rfl, ?_⟩
        refine rep_ok (row_dp (s11.row hf10)) okF ?_
        refine ne_same ?_
        refine ite2 (fun c => absurd c (by decide)) fun _ => ?_
        have s5B := (s57.trans s7A).trans s11
        exact k18 k a d l vr (.ref aw) (.ref ad) vback pl0 rg r ns _ _ _ _ _ _ _ _ _ _ _ _ _ _ H11 (hd5.same s5B) (s5B.row hR5) (s5B.row hV5) (s5B.row hB5) h14 hS hAb kq
end
end K08

/-! The law: voices, there and back, single ones. -/
namespace K08
open PySem PySem.Spec PyProof.Rows L2
theorem lv_vo (r : List Int) (ns : List Num) : lvL r ns 1 1 = voL r ns := by
  unfold lvL voL
  rw [Int.mul_one]
theorem lv_rb (r : List Int) (ns : List Num) : lvL r ns (-1) ((placesL r).length : Nat) = rbL r ns := rfl
theorem voL_at {r : List Int} {ns : List Num} {i : Nat} {l : List Int} (h : (placesL r)[i]? = some l) : (voL r ns)[i]? = some (voN1 r ns l) := by
  unfold voL voN1
  rw [List.getElem?_map, h]
  rfl
theorem tup3_ok {t1 t2 t3 : TE} {σ : L2.St} {H : Hp} {Q : VK} (h : t1 σ H fun x H1 => t2 σ H1 fun y H2 => t3 σ H2 fun z H3 => ([x, y, z] : List V).length ≤ sizeLine ∧ ∀ p, H3 p = none → Q (.ref p) (upd H3 p (.tup [x, y, z]))) : tTup (tCons t1 (tCons t2 (tCons t3 tNil))) σ H Q := h
theorem call_rb {K : PySem.W.Frag} {i j : Nat} {σ : L2.St} {H : Hp} {v u : V} {r : List Int} {ns : List Num} {Q : VK} (e1 : σ[i]? = some (some v)) (e2 : σ[j]? = some (some u)) (h1 : TupI K H v r) (h2 : RowAt K H u ns) (h3 : r ∈ RR) (h4 : RowG r ns) (q : ∀ v H', Same H H' → RowAt K H' v (rbL r ns) → Q v H') :
    tCall (spBack K) [] E0 (tCons (tVar i) (tCons (tVar j) tNil)) σ H Q := ⟨_, e1, _, e2, _, _, r, ns, rfl, h1, h2, h3, h4, q⟩
theorem call_rbK {K : PySem.W.Frag} {i j : Nat} {σ : L2.St} {H : Hp} {v u : V} {r : List Int} {ns : List Num} {Q : VK} (e1 : σ[i]? = some (some v)) (e2 : σ[j]? = some (some u)) (h1 : TupI K H v r) (h2 : RowAt K H u ns) (h3 : r ∈ RR) (h4 : RowG r ns) (q : ∀ v H', Same H H' → RowAt K H' v (rbL r ns) → Q v H') :
    tCallK (spBack K) g2V E0 tNil (tCons (tVar j) (tCons (tVar i) tNil)) σ H Q := ⟨_, e2, _, e1, _, _, r, ns, rfl, h1, h2, h3, h4, q⟩
section
variable {P : Program} {w : World} {K : PySem.W.Frag} {mg : Str → Option Value} {base : Heap} {f : Addr} {cdv : Value} {A : Around} {outer : List Env} {s0 : Shared} {H0 : Hp} {E : XK}
theorem part6 (Z : Fs P w K mg base) (B : Bl mg) (hA : A.guards = some []) (hr : Room 8 (A.deeper (envOfC "law" (defScope sLaw) s0.heap.objs.size f cdv))) :
    ∃ t, PSs (cxOf CX0 P w K mg base lawN "law" (defScope sLaw) f cdv A outer s0 H0 E).nox (lawB.drop 6) t ∧ ∀ (k : Ends) (a d l : Addr) (vr vrow voth : V) (pl0 rg : Addr) (r : List Int) (ns os : List Num) (x9 x10 x11 x12 x13 x14 x15 x16 x17 x18 x19 x20 x21 x22 : Option V) (H : Hp),
      Hand K d l vr pl0 rg r H → RowAt K H vrow ns → RowAt K H voth os → r ∈ RR → RowS r 6 ns → AbsR (2 ^ 31) ns → RowS r 6 os → AbsR 3 os → (∀ H', k.rt (.bl true) H') →
      t k [some (.ref a), some (.ref d), some vr, some (.ref pl0), some (.int (ordL r)), some (.ref rg), some (.int ((placesL r).length : Nat)), some vrow, some voth, x9, x10, x11, x12, x13, x14, x15, x16, x17, x18, x19, x20, x21, x22] H := by
  have hu := hu_of hr
  have cr : CallR (Cx.nox (cxOf CX0 P w K mg base lawN "law" (defScope sLaw) f cdv A outer s0 H0 E)) (.builtin "repr") (rRepr K) := call_repr hA hr.units
  obtain ⟨t12, p12, k12⟩ := part12 (P := P) (w := w) (K := K) (mg := mg) (base := base) (f := f) (cdv := cdv) (A := A) (outer := outer) (s0 := s0) (H0 := H0) (E := E) Z B hA hr
  refine ⟨_, (pss_cons (ps_set (i := 9) scLaw.nd rfl (Or.inl rfl) (pe_call Z.f_l_voices.G (hr.mono (by decide)) (by rfl) Z.f_l_voices.g Z.f_l_voices.F.kp Z.f_l_voices.b .nil pass0 (pa_cons (pv 2) (pa_cons (pv 5) (pa_cons (pv 7) (pa_cons pe_int (pa_cons pe_int pa_nil)))))))
    (pss_cons (ps_if (pt_cmpR op_ne (pe_callB cr (by rfl) (B "repr" (by decide +kernel)) (by decide +kernel) (pa_cons (pe_tup (pa_cons (pe_call Z.f_voices.G hr (by rfl) Z.f_voices.g Z.f_voices.F.kp Z.f_voices.b .nil pass0 (pa_cons (pv 2) (pa_cons (pv 7) pa_nil)))
          (pa_cons (pe_callK0 Z.f_voices.G hr (by rfl) Z.f_voices.g Z.f_voices.F.kp (kb_voices Z.f_voices.F) pass0 (pk_cons (pv 7) (pk_cons (pv 2) pk_nil))) pa_nil))) pa_nil))
        (pe_callB cr (by rfl) (B "repr" (by decide +kernel)) (by decide +kernel) (pa_cons (pe_tup (pa_cons (pv 9) (pa_cons (pv 9) pa_nil))) pa_nil)) (nomark _)) (pss_one (ps_ret pe_bl)) pss_nil)
    (pss_cons (ps_set (i := 10) scLaw.nd rfl (Or.inl rfl) (pe_call Z.f_l_voices.G (hr.mono (by decide)) (by rfl) Z.f_l_voices.g Z.f_l_voices.F.kp Z.f_l_voices.b .nil pass0 (pa_cons (pv 2) (pa_cons (pv 5) (pa_cons (pv 7) (pa_cons (pe_un un_neg pe_int) (pa_cons (pv 6) pa_nil)))))))
    (pss_cons (ps_if (pt_cmpR op_ne (pe_callB cr (by rfl) (B "repr" (by decide +kernel)) (by decide +kernel) (pa_cons (pe_tup (pa_cons (pe_call Z.f_row_back.G hr (by rfl) Z.f_row_back.g Z.f_row_back.F.kp Z.f_row_back.b .nil pass0 (pa_cons (pv 2) (pa_cons (pv 7) pa_nil)))
          (pa_cons (pe_callK0 Z.f_row_back.G hr (by rfl) Z.f_row_back.g Z.f_row_back.F.kp (kb_back Z.f_row_back.F) pass0 (pk_cons (pv 9) (pk_cons (pv 2) pk_nil))) (pa_cons (pe_call Z.f_voices.G hr (by rfl) Z.f_voices.g Z.f_voices.F.kp Z.f_voices.b .nil pass0 (pa_cons (pv 2) (pa_cons (pv 10) pa_nil))) pa_nil)))) pa_nil))
        (pe_callB cr (by rfl) (B "repr" (by decide +kernel)) (by decide +kernel) (pa_cons (pe_tup (pa_cons (pv 10) (pa_cons (pv 7) (pa_cons (pv 7) pa_nil)))) pa_nil)) (nomark _)) (pss_one (ps_ret pe_bl)) pss_nil)
    (pss_cons (ps_set (i := 11) scLaw.nd rfl (Or.inl rfl) (pe_call Z.f_l_draw.G (hr.mono (by decide)) (by rfl) Z.f_l_draw.g Z.f_l_draw.F.kp Z.f_l_draw.b .nil pass0 (pa_cons (pv 1) (pa_cons (pv 6) pa_nil))))
    (pss_cons (ps_if (pt_cmpR op_ne (pe_callB cr (by rfl) (B "repr" (by decide +kernel)) (by decide +kernel) (pa_cons (pe_tup (pa_cons (pe_call Z.f_voice.G hr (by rfl) Z.f_voice.g Z.f_voice.F.kp Z.f_voice.b .nil pass0 (pa_cons (pv 2) (pa_cons (pv 7) (pa_cons (pe_ix ix_list (pv 3) (pv 11) (fun _ _ => rfl)) pa_nil))))
          (pa_cons (pe_callK0 Z.f_voice.G hr (by rfl) Z.f_voice.g Z.f_voice.F.kp (kb_voice Z.f_voice.F) pass0 (pk_cons (pe_ix ix_list (pv 3) pe_int (fun _ _ => rfl)) (pk_cons (pv 7) (pk_cons (pv 2) pk_nil)))) pa_nil))) pa_nil))
        (pe_callB cr (by rfl) (B "repr" (by decide +kernel)) (by decide +kernel) (pa_cons (pe_tup (pa_cons (pe_ix ix_tup (pv 9) (pv 11) (fun _ _ => rfl)) (pa_cons (pe_ix ix_tup (pv 9) pe_int (fun _ _ => rfl)) pa_nil))) pa_nil)) (nomark _)) (pss_one (ps_ret pe_bl)) pss_nil) p12)))))),
    fun k a d l vr vrow voth pl0 rg r ns os x9 x10 x11 x12 x13 x14 x15 x16 x17 x18 x19 x20 x21 x22 H hd hR hO h14 hS hAb hSo hAo kq => ?_⟩
  have l16 := (pl_pos r h14).2
  have l1 := (pl_pos r h14).1
  have he := er_in r h14
  have levR := hS.lev (by decide) ns.length
  rw [List.take_length] at levR
  have hVs := rowS_vo h14 hS (by decide)
  have hBs := rowS_rb h14 hS (by decide)
  have gR := hS.g h14 (by decide) (by decide)
  have gV := hVs.g h14 (by decide) (by decide)
  have gB := hBs.g h14 (by omega) (by omega)
  have bR : Bd ns := bd_of h14 hS (by decide) (by decide) hAb (by decide)
  have bV : Bd (voL r ns) := bd_of h14 hVs (by decide) (by decide) (abs_vo h14 (by omega) hS.c hAb) (by decide)
  have bB : Bd (rbL r ns) := bd_of h14 hBs (by omega) (by omega) (abs_rb h14 (by omega) hS.c hAb) (by decide)
  have oR := okd_row bR (by rw [hS.c.len]; exact l16)
  have oV := okd_row bV (by rw [hVs.c.len]; exact l16)
  have oB := okd_row bB (by rw [hBs.c.len]; exact l16)
  -- due
  refine ⟨_, rfl, _, rfl, _, rfl, vr, vrow, rg, r, ns, 1, 1, rfl, hd.R, SqL.of hd.G.1, hR, h14, gR.ok, by decide, by decide, by decide, by decide, fun vdue H1 s1 hV => ?_⟩
  rw [lv_vo] at hV
  have hd1 := hd.same s1
  have hR1 := s1.row hR
  refine set_ok ?_
  dsimp only
  refine cb1_ok ?_
  refine tup2_ok ?_
  refine call_vo rfl rfl hd1.R hR1 h14 gR fun v2 H2 s2 hv2 => ?_
  refine call_voK rfl rfl (s2.tupI hd1.R) (s2.row hR1) h14 gR fun v3 H3 s3 hv3 => ?_
  refine ⟨by show 2 ≤ sizeLine; decide, fun q hq => ?_⟩
  have sq : Same H3 (upd H3 q (.tup [v2, v3])) := same_upd hq
  have gq : SqT K (upd H3 q (.tup [v2, v3])) q [v2, v3] := SqT.of upd_same
  generalize upd H3 q (.tup [v2, v3]) = H4 at sq gq
  have okVV : OkD 40 50000 (.tuple [rowD (voL r ns), rowD (voL r ns)]) := by
    refine okd_list (fun x hx => ?_) (by show 2 ≤ 3; decide)
    rcases List.mem_cons.mp hx with rfl | hx
    · exact oV
    · rw [List.mem_singleton.mp hx]
      exact oV
  refine rep_ok (d := .tuple [rowD (voL r ns), rowD (voL r ns)]) (.tup gq (.cons (row_dp ((s3.trans sq).row hv2)) (.cons (row_dp (sq.row hv3)) .nil))) okVV ?_
  have s14 := (s2.trans s3).trans sq
  have hV4 := s14.row hV
  refine cb1_ok ?_
  refine tup2_ok ?_
  refine ⟨_, rfl, _, rfl, by show 2 ≤ sizeLine; decide, fun q2 hq2 => ?_⟩
  have sq2 : Same H4 (upd H4 q2 (.tup [vdue, vdue])) := same_upd hq2
  have gq2 : SqT K (upd H4 q2 (.tup [vdue, vdue])) q2 [vdue, vdue] := SqT.of upd_same
  generalize upd H4 q2 (.tup [vdue, vdue]) = H5 at sq2 gq2
  refine rep_ok (d := .tuple [rowD (voL r ns), rowD (voL r ns)]) (.tup gq2 (.cons (row_dp (sq2.row hV4)) (.cons (row_dp (sq2.row hV4)) .nil))) okVV ?_
  refine ne_same ?_
  refine ite2 (fun c => absurd c (by decide)) fun _ => ?_
  have s15 := s14.trans sq2
  have hd5 := hd1.same s15
  have hR5 := s15.row hR1
  have hV5 := s15.row hV
  -- back
  refine next_asg ?_
  refine ⟨_, rfl, _, rfl, _, rfl, _, rfl, _, rfl, vr, vrow, rg, r, ns, -1, ((placesL r).length : Nat), rfl, hd5.R, SqL.of hd5.G.1, hR5, h14, gR.ok, by decide, by decide, by omega, by omega, fun vback H6 s6 hB6 => ?_⟩
  rw [lv_rb] at hB6
  have hd6 := hd5.same s6
  have hR6 := s6.row hR5
  have hV6 := s6.row hV5
  refine set_ok ?_
  refine cb1_ok ?_
  refine tup3_ok ?_
  refine call_rb rfl rfl hd6.R hR6 h14 gR fun v7 H7 s7 hv7 => ?_
  refine call_rbK rfl rfl (s7.tupI hd6.R) (s7.row hV6) h14 gV fun v8 H8 s8 hv8 => ?_
  refine call_vo rfl rfl ((s7.trans s8).tupI hd6.R) ((s7.trans s8).row hB6) h14 gB fun v9 H9 s9 hv9 => ?_
  rw [rb_vo h14 hS.c] at hv8
  rw [vo_rb h14 hS.c] at hv9
  refine ⟨by show 3 ≤ sizeLine; decide, fun q3 hq3 => ?_⟩
  have sq3 : Same H9 (upd H9 q3 (.tup [v7, v8, v9])) := same_upd hq3
  have gq3 : SqT K (upd H9 q3 (.tup [v7, v8, v9])) q3 [v7, v8, v9] := SqT.of upd_same
  generalize upd H9 q3 (.tup [v7, v8, v9]) = H10 at sq3 gq3
  have okB : OkD 40 50000 (.tuple [rowD (rbL r ns), rowD ns, rowD ns]) := by
    refine okd_list (fun x hx => ?_) (Nat.le_refl _)
    rcases List.mem_cons.mp hx with rfl | hx
    · exact oB
    · rcases List.mem_cons.mp hx with rfl | hx
      · exact oR
      · rw [List.mem_singleton.mp hx]
        exact oR
  refine rep_ok (d := .tuple [rowD (rbL r ns), rowD ns, rowD ns]) (.tup gq3 (.cons (row_dp (((s8.trans s9).trans sq3).row hv7)) (.cons (row_dp ((s9.trans sq3).row hv8)) (.cons (row_dp (sq3.row hv9)) .nil)))) okB ?_
  have s6A := ((s7.trans s8).trans s9).trans sq3
  refine cb1_ok ?_
  refine tup3_ok ?_
  refine ⟨_, rfl, _, rfl, _, rfl, by show 3 ≤ sizeLine; decide, fun q4 hq4 => ?_⟩
  have sq4 : Same H10 (upd H10 q4 (.tup [vback, vrow, vrow])) := same_upd hq4
  have gq4 : SqT K (upd H10 q4 (.tup [vback, vrow, vrow])) q4 [vback, vrow, vrow] := SqT.of upd_same
  generalize upd H10 q4 (.tup [vback, vrow, vrow]) = H11 at sq4 gq4
  have s6B := s6A.trans sq4
  refine rep_ok (d := .tuple [rowD (rbL r ns), rowD ns, rowD ns]) (.tup gq4 (.cons (row_dp (s6B.row hB6)) (.cons (row_dp (s6B.row hR6)) (.cons (row_dp (s6B.row hR6)) .nil)))) okB ?_
  refine ne_same ?_
  refine ite2 (fun c => absurd c (by decide)) fun _ => ?_
  have hd11 := hd6.same s6B
  have s1B := (s15.trans s6).trans s6B
  have hR11 := s6B.row hR6
  have hV11 := s6B.row hV6
  have hB11 := s6B.row hB6
  have hO11 := (s1.trans s1B).row hO
  -- at
  refine next_asg ?_
  refine ⟨_, rfl, _, rfl, d, l, ((placesL r).length : Nat), rfl, hd11.D, by omega, by omega, fun x H12 x0 x1 D12 k12' => ?_⟩
  obtain ⟨j, rfl⟩ := Int.eq_ofNat_of_zero_le x0
  have hd12 := hd11.keeps D12 k12'
  have hR12 := k12'.row hd11.D hR11
  have hV12 := k12'.row hd11.D hV11
  have hB12 := k12'.row hd11.D hB11
  have hO12 := k12'.row hd11.D hO11
  obtain ⟨⟨kp, hk1, hk2, hk3⟩, plL⟩ := id hd12.P
  have hkl : kp.length = (placesL r).length := by rw [← hk2, List.length_map]
  obtain ⟨q0, hq0⟩ : ∃ q, kp[0]? = some q := ⟨kp[0]'(by omega), List.getElem?_eq_getElem (by omega)⟩
  obtain ⟨qj, hqj⟩ : ∃ q, kp[j]? = some q := ⟨kp[j]'(by omega), List.getElem?_eq_getElem (by omega)⟩
  have h02 := map_get hk2 hq0
  have hj2 := map_get hk2 hqj
  have hi0 : (rf kp)[0]? = some (.ref q0.1) := by rw [List.getElem?_map, hq0]; rfl
  have hij : (rf kp)[j]? = some (.ref qj.1) := by rw [List.getElem?_map, hqj]; rfl
  obtain ⟨ad, ud, rfl, had, hNd⟩ := id hV12
  have lud : ud.length = (placesL r).length := by rw [hNd.1, len_vo]
  obtain ⟨y0, hy0⟩ : ∃ y, ud[0]? = some y := ⟨ud[0]'(by omega), List.getElem?_eq_getElem (by omega)⟩
  obtain ⟨yj, hyj⟩ : ∃ y, ud[j]? = some y := ⟨ud[j]'(by omega), List.getElem?_eq_getElem (by omega)⟩
  have n0 := hNd.2 0 y0 _ hy0 (voL_at h02)
  have nj := hNd.2 j yj _ hyj (voL_at hj2)
  refine set_ok ?_
  refine cb1_ok ?_
  refine tup2_ok ?_
  refine ⟨_, rfl, _, rfl, _, rfl, _, rfl, pl0, _, (j : Int), _, rfl, rfl, SqL.of hk1, atI_nat (j := j) hij, vr, vrow, .ref qj.1, r, ns, qj.2, rfl, hd12.R, hR12, ⟨qj.1, rfl, hk3 qj (List.mem_of_getElem? hqj)⟩, h14, gR, List.mem_of_getElem? hj2, fun v13 H13 s13 hv13 => ?_⟩
  refine ⟨_, rfl, pl0, _, ((0 : Nat) : Int), _, rfl, rfl, SqL.of (s13 _ _ hk1), atI_nat (j := 0) hi0, _, rfl, _, rfl, vr, vrow, .ref q0.1, r, ns, q0.2, rfl, s13.tupI hd12.R, s13.row hR12, ⟨q0.1, rfl, s13.tup (hk3 q0 (List.mem_of_getElem? hq0))⟩, h14, gR, List.mem_of_getElem? h02, fun v14 H14 s14' hv14 => ?_⟩
  refine ⟨by show 2 ≤ sizeLine; decide, fun q5 hq5 => ?_⟩
  have sq5 : Same H14 (upd H14 q5 (.tup [v13, v14])) := same_upd hq5
  have gq5 : SqT K (upd H14 q5 (.tup [v13, v14])) q5 [v13, v14] := SqT.of upd_same
  generalize upd H14 q5 (.tup [v13, v14]) = H15 at sq5 gq5
  have okN : OkD 40 50000 (.tuple [numD (voN1 r ns qj.2), numD (voN1 r ns q0.2)]) := by
    refine okd_list (fun x hx => ?_) (by show 2 ≤ 3; decide)
    rcases List.mem_cons.mp hx with rfl | hx
    · have z := bV _ (List.mem_of_getElem? (voL_at hj2))
      exact (okd_num z.1 z.2.1 z.2.2).le (by decide) (by decide)
    · rw [List.mem_singleton.mp hx]
      have z := bV _ (List.mem_of_getElem? (voL_at h02))
      exact (okd_num z.1 z.2.1 z.2.2).le (by decide) (by decide)
  refine rep_ok (d := .tuple [numD (voN1 r ns qj.2), numD (voN1 r ns q0.2)]) (.tup gq5 (.cons (num_dp ((s14'.trans sq5).num hv13)) (.cons (num_dp (sq5.num hv14)) .nil))) okN ?_
  have s12F := (s13.trans s14').trans sq5
  refine cb1_ok ?_
  refine tup2_ok ?_
  refine ⟨_, rfl, _, rfl, ad, _, (j : Int), _, rfl, rfl, s12F.tup had, atI_nat (j := j) hyj, _, rfl, ad, _, ((0 : Nat) : Int), _, rfl, rfl, s12F.tup had, atI_nat (j := 0) hy0, by show 2 ≤ sizeLine; decide, fun q6 hq6 => ?_⟩
  have sq6 : Same H15 (upd H15 q6 (.tup [yj, y0])) := same_upd hq6
  have gq6 : SqT K (upd H15 q6 (.tup [yj, y0])) q6 [yj, y0] := SqT.of upd_same
  generalize upd H15 q6 (.tup [yj, y0]) = H16 at sq6 gq6
  have s12G := s12F.trans sq6
  refine rep_ok (d := .tuple [numD (voN1 r ns qj.2), numD (voN1 r ns q0.2)]) (.tup gq6 (.cons (num_dp (s12G.num nj)) (.cons (num_dp (s12G.num n0)) .nil))) okN ?_
  refine ne_same ?_
  refine ite2 (fun c => absurd c (by decide)) fun _ => ?_
  exact k12 k a d l vr vrow voth (.ref ad) vback pl0 rg r ns os _ _ _ _ _ _ _ _ _ _ _ _ _ H16 (hd12.same s12G) (s12G.row hR12) (s12G.row hO12) (s12G.row hV12) (s12G.row hB12) h14 hS hAb hSo hAo kq
end
end K08

namespace K08
open PySem PySem.Spec PyProof.Rows L2
/-! ### the law's def, where nothing is being shown -/
theorem fn_at {CX : CXT} {P : Program} {w : World} {K : PySem.W.Frag} {mg : Str → Option Value} {base : Heap} {k : Nat} {f : Addr} {name qual : Str} {params : Arguments} {body : List Stmt} {scope : Scope} {fd : FuncData} {N ps : List Str} {sp : Sp} {A : Around} (F : FunD K name qual params body scope [] [] f fd) (S : FnScope N ps scope)
    (len : ∀ vs H Q E, sp vs H Q E → vs.length = ps.length) (hr : Room (k + 1) A)
    (hbody : ∀ (cdv : Value) (outer : List Env) (s : Shared) (H : Hp) (vs : List V) (Q : VK) (E : XK), Room k (A.deeper (envOfC qual scope s.heap.objs.size f cdv)) → sp vs H Q E →
      ∃ t, PSs (cxOf CX P w K mg base N qual scope f cdv A outer s H E) body t ∧ t { nx := fun _ H' => Q .non H', rt := Q } (start N vs) H)
    (outer : List Env) (s : Shared) (H : Hp) (args : Args) (us : List Value) (vs : List V) (Q : VK) (E : XK) (e0 : Env0 P w K mg base A outer s H) (hb : BindsTo s fd args (ps.zip us)) (r : Vals vs us) (hsp : sp vs H Q E) :
    codeAny (model P w) A (.call (.ref f) args) (CR CX outer P w H s Q E) s := by
  obtain ⟨oc, od, dV, kV, doc, pm, an, cdv, ct, osl, rfl, lk, hcd, _, _⟩ := F.ex
  have hl := len _ _ _ _ hsp
  have KX : K.In s.heap := e0.mod.kin.keeps fun b o e => (e0.bs b o e).1
  have lim : s.heap.NoLimit := e0.mod.nolimit.keeps fun b o e => (e0.bs b o e).1
  have hkind : ∀ y ∈ ps.zip us, scope.names.lookup y.1 = some .local ∨ (scope.names.lookup y.1 = some .cell ∧ ((cellsFrom (s.heap.objs.size + 1) scope.names []).lookup y.1).isSome = true) := fun ⟨n, v⟩ hy => by
    rcases S.par n (List.of_mem_zip hy).1 with q | q
    · exact .inl q
    · exact .inr ⟨q, PySem.W.cellsFrom_some _ _ _ (.inl q)⟩
  refine codeAny_call_function hr.depth (KX _ _ lk) rfl S.co S.gen rfl (PySem.W.codeRec_of KX hcd) (hb _ _ _ _ ?_)
  refine wpAny_newFunctionEnv_cells S.kind hkind fun env he s1 x => ?_
  subst he
  refine ⟨lim.keeps x.toInCall.keep, codeAny_func ?_⟩
  obtain ⟨t, ht, hq⟩ := hbody cdv outer s H vs Q E (hr.deeper _) hsp
  have I : Inv (cxOf CX P w K mg base N qual scope f cdv A outer s H E) [] (start N vs) H s1 := inv_start S hr.hd e0 hl r x
  refine wpAny_mono (ht.run [] s1 (start N vs) H _ I hq) (fun fl s' hs => ?_) fun e s' hs => hs
  cases fl with
  | ret u =>
    obtain ⟨v, σ', H', J, rv, q⟩ := hs
    exact ⟨v, H', J.os, J.bare, J.base, J.hok, rv, q⟩
  | next =>
    obtain ⟨σ', H', J, q⟩ := hs
    exact ⟨.non, H', J.os, J.bare, J.base, J.hok, rfl, q⟩
  | brk =>
    obtain ⟨_, _, _, q⟩ := hs
    exact False.elim q
  | cont =>
    obtain ⟨_, _, _, q⟩ := hs
    exact False.elim q
def spLaw (K : PySem.W.Frag) : Sp := fun vs H Q _ => ∃ (a : Addr) (ns : List Int), vs = [.ref a] ∧ SqL K H a (ns.map V.int) ∧ ns.length ≤ 63 ∧ ∀ H', Q (.bl true) H'
theorem pl_ne {K : PySem.W.Frag} {d l : Addr} {H : Hp} (D : DeckAt d l H) {a : Addr} {r : List Int} (hr : r ∈ RR) (h : PlL K H a (placesL r)) : a ≠ l := by
  obtain ⟨_, ns, h2⟩ := deck_ref D
  obtain ⟨ks, h3, h4, _⟩ := h
  rintro rfl
  rw [h3] at h2
  have e := HO.lst.inj (Option.some.inj h2)
  have hn : 0 < (placesL r).length := by have := (pl_pos r hr).1; omega
  rw [← h4, List.length_map] at hn
  cases ks with
  | nil => simp at hn
  | cons k ks =>
    cases ns with
    | nil => simp [rf] at e
    | cons n ns =>
      simp only [rf, List.map_cons] at e
      cases e
theorem good_row {r : List Int} (hr : r ∈ RR) {ns : List Num} (hl : ns.length = (placesL r).length) (h : ∀ m ∈ ns, GoodN (ordL r) m) : RowS r 6 ns ∧ AbsR 3 ns :=
  ⟨⟨⟨hl, fun n hn => good_c hr (h n hn)⟩, fun n hn => (h n hn).six⟩, fun n hn t ht => by have := (h n hn).small t ht; omega⟩
theorem AbsR.le {M N : Nat} {ns : List Num} (h : AbsR M ns) (e : M ≤ N) : AbsR N ns := fun n hn t ht => Nat.le_trans (h n hn t ht) e
section
variable {P : Program} {w : World} {K : PySem.W.Frag} {mg : Str → Option Value} {base : Heap} {f : Addr} {fd : FuncData}
theorem ok_law (F : FnP K "law" sLaw f fd) (B : Bl mg) (Z : Fs P w K mg base)
    {A : Around} (hA : A.guards = some []) (hr : Room 9 A) (outer : List Env) (s : Shared) (H : Hp) (args : Args) (us : List Value) (vs : List V) (Q : VK) (E : XK) (e0 : Env0 P w K mg base A outer s H)
    (hb : BindsTo s fd args ((["script"] : List Str).zip us)) (r : Vals vs us) (hsp : spLaw K vs H Q E) : codeAny (model P w) A (.call (.ref f) args) (CR CX0 outer P w H s Q E) s := by
  refine fn_at F scLaw (fun vs H Q E h => ?_) hr (fun cdv outer s H vs Q E hr h => ?_) outer s H args us vs Q E e0 hb r hsp
  · obtain ⟨a, ns, rfl, _⟩ := h
    rfl
  · obtain ⟨t6, p6, k6⟩ := part6 (P := P) (w := w) (K := K) (mg := mg) (base := base) (f := f) (cdv := cdv) (A := A) (outer := outer) (s0 := s) (H0 := H) (E := E) Z B hA hr
    refine ⟨_, PSs.nox (pss_cons (ps_set (i := 1) scLaw.nd rfl (Or.inr rfl) (pe_call Z.f_l_deck.G (hr.mono (by decide)) (by rfl) Z.f_l_deck.g Z.f_l_deck.F.kp Z.f_l_deck.b .nil pass0 (pa_cons (pv 0) pa_nil)))
      (pss_cons (ps_set (i := 2) scLaw.nd rfl (Or.inl rfl) (pe_call Z.f_l_rings.G (hr.mono (by decide)) (by rfl) Z.f_l_rings.g Z.f_l_rings.F.kp Z.f_l_rings.b .nil pass0 (pa_cons (pv 1) (pa_cons (pe_call Z.f_l_pick.G (hr.mono (by decide)) (by rfl) Z.f_l_pick.g Z.f_l_pick.F.kp Z.f_l_pick.b .nil pass0 (pa_cons (pv 1) (pa_cons (pe_lst (pa_cons pe_int (pa_cons pe_int (pa_cons pe_int (pa_cons pe_int (pa_cons pe_int (pa_cons pe_int pa_nil))))))) pa_nil))) pa_nil))))
      (pss_cons (ps_asg (pe_tup (pa_cons (pe_call Z.f_l_places.G (hr.mono (by decide)) (by rfl) Z.f_l_places.g Z.f_l_places.F.kp Z.f_l_places.b .nil pass0 (pa_cons (pv 2) pa_nil)) (pa_cons (pe_call Z.f_l_order.G (hr.mono (by decide)) (by rfl) Z.f_l_order.g Z.f_l_order.F.kp Z.f_l_order.b .nil pass0 (pa_cons (pv 2) pa_nil)) pa_nil)))
          (pg_tup rfl (pgs_cons (pg_name (i := 3) scLaw.nd rfl (Or.inl rfl)) (pgs_cons (pg_name (i := 4) scLaw.nd rfl (Or.inr rfl)) pgs_nil))))
      (pss_cons (ps_asg (pe_tup (pa_cons (pe_call Z.f_l_ring.G (hr.mono (by decide)) (by rfl) Z.f_l_ring.g Z.f_l_ring.F.kp Z.f_l_ring.b .nil pass0 (pa_cons (pv 4) pa_nil)) (pa_cons (pe_callB call_len_seq (by rfl) (B "len" (by decide +kernel)) PySem.boot_len (pa_cons (pv 3) pa_nil)) pa_nil)))
          (pg_tup rfl (pgs_cons (pg_name (i := 5) scLaw.nd rfl (Or.inr rfl)) (pgs_cons (pg_name (i := 6) scLaw.nd rfl (Or.inl rfl)) pgs_nil))))
      (pss_cons (ps_par (i := 7) (j := 8) rfl scLaw.nd rfl rfl (by decide) rfl rfl (pa_cons (pe_call Z.f_l_row.G (hr.mono (by decide)) (by rfl) Z.f_l_row.g Z.f_l_row.F.kp Z.f_l_row.b .nil pass0 (pa_cons (pv 1) (pa_cons (pv 5) (pa_cons (pv 6) pa_nil)))) (pa_cons (pe_call Z.f_l_row.G (hr.mono (by decide)) (by rfl) Z.f_l_row.g Z.f_l_row.F.kp Z.f_l_row.b .nil pass0 (pa_cons (pv 1) (pa_cons (pv 5) (pa_cons (pv 6) pa_nil)))) pa_nil)) rfl)
      (pss_cons (ps_if (pt_cmpR op_eq (pe_call Z.f_l_draw.G (hr.mono (by decide)) (by rfl) Z.f_l_draw.g Z.f_l_draw.F.kp Z.f_l_draw.b .nil pass0 (pa_cons (pv 1) (pa_cons pe_int pa_nil))) pe_int (nomark _))
        (pss_one (ps_set (i := 7) scLaw.nd rfl (Or.inl rfl) (pe_callTy call_tuple_of (by rfl) (B "tuple" (by decide +kernel)) (by decide +kernel) (pa_cons
          (pe_lc (own := [("x", 21)]) (g := gName 21) (tt := tYes) (te := tCall (spLMade K) [] E0 (tCons (tVar 5) (tCons (tLst (tCons (tOp rPlus (tOp rMinus (tCall spDraw [] E0 (tCons (tVar 1) (tCons (tOp rMul (tC (.int 2)) (tOp (rI CPow fun i j => .int (i ^ j.toNat)) (tC (.int 10)) (tC (.int 9)))) tNil))) (tOp (rI CPow fun i j => .int (i ^ j.toNat)) (tC (.int 10)) (tC (.int 9)))) (tC (.int 1))) tNil)) (tCons (tC (.int 1)) tNil)))) rfl scLaw.nd (pi_list (pv 3))
            (blkOk_by (own := [("x", 21)]) (N := lawN) (sc := defScope sLaw) (by decide +kernel)) (fun _ _ _ _ _ => pg_name (i := 21) scLaw.nd rfl (Or.inl rfl)) (fun _ _ _ _ _ => pts_nil)
            (fun _ _ _ _ _ => pe_call Z.f_l_made.G (hr.mono (by decide)) rfl Z.f_l_made.g Z.f_l_made.F.kp Z.f_l_made.b .nil pass0 (pa_cons (pv 5) (pa_cons (pe_lst (pa_cons (pe_op op_add (pe_op op_sub (pe_call Z.f_l_draw.G (hr.mono (by decide)) rfl Z.f_l_draw.g Z.f_l_draw.F.kp Z.f_l_draw.b .nil pass0 (pa_cons (pv 1) (pa_cons (pe_op op_mul pe_int (pe_op op_pow pe_int pe_int)) pa_nil))) (pe_op op_pow pe_int pe_int)) pe_int) pa_nil)) (pa_cons pe_int pa_nil))))) pa_nil)))) pss_nil) p6)))))), ?_⟩
    obtain ⟨a, ns, rfl, hS, hlen, hQ⟩ := h
    refine ⟨_, rfl, a, ns, rfl, hS, hlen, fun d l H1 D1 _ _ _ => ?_⟩
    -- rings
    refine ⟨_, rfl, _, rfl, by show 6 ≤ sizeLine; decide, fun p hp => ?_⟩
    obtain ⟨_, ns1, hl1⟩ := deck_ref D1
    refine ⟨d, l, p, _, rfl, D1.new hp, upd_same, (ne_of_none hl1 hp).symm, by show 1 ≤ 6; decide, by show 6 < 1000000; decide, fun v H2 hv D2 k2 => ?_⟩
    obtain ⟨m, rfl, hm⟩ : ∃ m, v = V.int m ∧ m ∈ ([6, 8, 9, 12, 16] : List Int) := by
      have : v ∈ ([9, 8, 6, 9, 8, 16] : List Int).map V.int := hv
      obtain ⟨m, h1, rfl⟩ := List.mem_map.mp this
      exact ⟨m, rfl, (by decide : ∀ m ∈ ([9, 8, 6, 9, 8, 16] : List Int), m ∈ ([6, 8, 9, 12, 16] : List Int)) m h1⟩
    refine ⟨d, l, m, rfl, D2, hm, fun vr r H3 D3 k3 hvr h14 => ?_⟩
    have he := er_in r h14
    have l16 := (pl_pos r h14).2
    have l1 := (pl_pos r h14).1
    -- places, e
    refine ⟨_, rfl, _, r, rfl, hvr, h14, fun pl0 H4 s4 hpl => ?_⟩
    refine ⟨_, rfl, _, r, rfl, s4.tupI hvr, h14, fun H5 s5 => ?_⟩
    refine ⟨by show 2 ≤ sizeLine; decide, fun pt hpt => ?_⟩
    have s6 : Same H5 (upd H5 pt (.tup [.ref pl0, .int (ordL r)])) := same_upd hpt
    refine ⟨pt, _, rfl, SqT.of upd_same, rfl, _, _, rfl, _, _, rfl, rfl, ?_⟩
    generalize upd H5 pt (.tup [.ref pl0, .int (ordL r)]) = H6 at s6
    have s36 := (s4.trans s5).trans s6
    have D6 := s36.deck D3
    have hvr6 := s36.tupI hvr
    have hpl6 := (s5.trans s6).pll hpl
    -- ring, n
    refine ⟨_, rfl, ordL r, rfl, he, fun rg H7 s7 nrg hrg => ?_⟩
    obtain ⟨kp, hk1, hk2, hk3⟩ := s7.pll hpl6
    have hkl : (rf kp).length = (placesL r).length := by rw [← hk2, List.length_map, List.length_map]
    refine ⟨_, rfl, pl0, _, rfl, .inl (SqL.of hk1), by show 2 ≤ sizeLine; decide, fun pt2 hpt2 => ?_⟩
    rw [hkl]
    have s8 : Same H7 (upd H7 pt2 (.tup [.ref rg, .int ((placesL r).length : Nat)])) := same_upd hpt2
    refine ⟨pt2, _, rfl, SqT.of upd_same, rfl, _, _, rfl, _, _, rfl, rfl, ?_⟩
    generalize upd H7 pt2 (.tup [.ref rg, .int ((placesL r).length : Nat)]) = H8 at s8
    have s68 := s7.trans s8
    have D8 := s68.deck D6
    obtain ⟨_, ns6, hl6⟩ := deck_ref D6
    have hd8 : Hand K d l vr pl0 rg r H8 := ⟨D8, s68.tupI hvr6, ⟨s68.pll hpl6, pl_ne D8 h14 (s68.pll hpl6)⟩, ⟨s8 _ _ hrg, (ne_of_none hl6 nrg).symm⟩⟩
    -- row, other
    refine ⟨_, rfl, _, rfl, _, rfl, d, l, rg, ordL r, (placesL r).length, rfl, he, l16, hd8.D, hd8.G, fun vrow ms H9 D9 k9 hrow lrow grow => ?_⟩
    have hd9 := hd8.keeps D9 k9
    refine ⟨_, rfl, _, rfl, _, rfl, d, l, rg, ordL r, (placesL r).length, rfl, he, l16, hd9.D, hd9.G, fun voth os H10 D10 k10 hoth loth goth => ⟨_, _, rfl, ?_⟩⟩
    have hd10 := hd9.keeps D10 k10
    have hrow10 := k10.row hd9.D hrow
    obtain ⟨sR, aR⟩ := good_row h14 lrow grow
    obtain ⟨sO, aO⟩ := good_row h14 loth goth
    -- perhaps a row of great numbers
    refine ⟨_, rfl, d, l, 5, rfl, hd10.D, by decide, by decide, fun x H11 x0 x1 D11 k11 => ⟨rfl, _, rfl, ?_⟩⟩
    have hd11 := hd10.keeps D11 k11
    have hrow11 := k11.row hd10.D hrow10
    have hoth11 := k11.row hd10.D hoth
    refine ite2 (fun _ => ?_) (fun _ => ?_)
    · obtain ⟨⟨kq, hq1, hq2, hq3⟩, plL⟩ := id hd11.P
      obtain ⟨⟨mm, jj, hdd⟩, nsd, hll⟩ := deck_ref hd11.D
      have plD' : pl0 ≠ d := ne_of hq1 hdd (by intro z; cases z)
      have hql : (rf kq).length = (placesL r).length := by rw [← hq2, List.length_map, List.length_map]
      refine ⟨_, rfl, pl0, rfl, ⟨_, SqL.of hq1⟩, fun D hD => ?_⟩
      have Dd : D ≠ d := (ne_of_none hdd hD).symm
      have Dl : D ≠ l := (ne_of_none hll hD).symm
      refine lc_list (K := K) (a := pl0) (xs := rf kq) (fun i H12 => DeckAt d l H12 ∧ Keeps d l H11 H12 ∧ ∃ (xs : List Int) (vs : List V), H12 D = some (.lst vs) ∧ Nums K H12 vs (rofL r xs) ∧ xs.length = i ∧ Abs (2 ^ 31) xs) ⟨hd11.D.new hD, .new hD, [], [], upd_same, nums_nil, rfl, fun x hx => absurd hx (by simp)⟩ (fun i H12 _ ⟨_, z, _⟩ => SqL.of (z _ _ hq1 plD' plL)) ?_ ?_
      · rintro i y H12 hi ⟨D12, k12, xs, vs, h12, hN, xl, xb⟩
        have il := ltL hi
        have hd12 := hd11.keeps D12 k12
        refine ⟨rfl, _, rfl, _, rfl, _, _, rfl, rfl, ⟨by decide, by decide, by decide⟩, _, _, rfl, rfl, Or.inl ⟨by decide, by decide⟩, d, l, 2 * 10 ^ 9, rfl, D12, by decide, by decide, fun y H13 y0 y1 D13 k13 => ?_⟩
        have hd13 := hd12.keeps D13 k13
        have h13 := k13 _ _ h12 Dd Dl
        have hN13 := k13.nums D12 hN
        refine ⟨_, _, rfl, rfl, ⟨by decide, by decide, by decide⟩, _, _, rfl, rfl, _, _, rfl, rfl, by show 1 ≤ sizeLine; decide, fun z hz => ?_⟩
        have sz : Same H13 (upd H13 z (.lst [.int (y - 10 ^ (9 : Int).toNat + 1)])) := same_upd hz
        have g14 := sz.ring hd13.G
        refine ⟨rg, z, [y - 10 ^ (9 : Int).toNat + 1], ordL r, 1, rfl, he, SqL.of g14.1, .inl (SqL.of upd_same), by show 1 ≤ 100; decide, by decide, by decide, fun v H14 s14 hv => ?_⟩
        rw [rof_eq h14] at hv
        have s1314 := sz.trans s14
        have h14' := s1314 _ _ h13
        have vl : vs.length < sizeLine := sl_lt (by rw [hN.1]; unfold rofL; rw [List.length_map]; omega)
        have ya : (y - 10 ^ (9 : Int).toNat + 1).natAbs ≤ 2 ^ 31 := by
          have e9 : (10 : Int) ^ (9 : Int).toNat = 1000000000 := by decide
          have e10 : (2 : Int) * 10 ^ 9 = 2000000000 := by decide
          rw [e9]
          rw [e10] at y1
          have e31 : (2 : Nat) ^ 31 = 2147483648 := by decide
          rw [e31]
          omega
        refine ⟨vs, h14', vl, (s1314.deck D13).off Dd Dl, fun b o eb nb nl => ?_, xs ++ [y - 10 ^ (9 : Int).toNat + 1], vs ++ [v], upd_same, ?_, by rw [List.length_append, xl]; rfl, fun u hu => ?_⟩
        · rw [upd_ne (ne_of_none eb hD)]
          exact ((k12.trans k13).trans (Same.keeps s1314)) b o eb nb nl
        · have e : rofL r (xs ++ [y - 10 ^ (9 : Int).toNat + 1]) = rofL r xs ++ [whN r (y - 10 ^ (9 : Int).toNat + 1)] := by unfold rofL; rw [List.map_append]; rfl
          rw [e]
          exact (nums_at (s1314.nums hN13) h14').snoc (num_at hv h14')
        · rcases List.mem_append.mp hu with q | q
          · exact xb u q
          · rw [List.mem_singleton.mp q]
            exact ya
      · rintro H12 ⟨D12, k12, xs, vs, h12, hN, xl, xb⟩
        rw [hql] at xl
        have hd12 := hd11.keeps D12 k12
        refine ⟨D, _, rfl, .inl ⟨SqL.of h12, fun t ht => ?_⟩⟩
        have st : Same H12 (upd H12 t (.tup vs)) := same_upd ht
        have ht12 : RowAt K (upd H12 t (.tup vs)) (.ref t) (rofL r xs) := ⟨t, vs, rfl, SqT.of upd_same, st.nums hN⟩
        generalize upd H12 t (.tup vs) = H13 at st ht12
        exact k6 _ a d l vr (.ref t) voth pl0 rg r (rofL r xs) os _ _ _ _ _ _ _ _ _ _ _ _ _ _ H13 (hd12.same st) ht12 (st.row (k12.row hd11.D hoth11)) h14 (rowS_rof h14 xl) (abs_rof xb) sO aO hQ
    · exact k6 _ a d l vr vrow voth pl0 rg r ms os _ _ _ _ _ _ _ _ _ _ _ _ _ _ H11 hd11 hrow11 hoth11 h14 sR (aR.le (by decide)) sO aO hQ
end
end K08

/-! The head: the facts, the run. -/
namespace K08
open PySem PySem.Spec PyProof.Rows L2
def dGlo (x : Str) (st : Stmt) : He.DefD := ⟨(x, none), x, x, defArgs st, defBody st, defScope st, [], []⟩
def dMe (m q : Str) (st : Stmt) : He.DefD := ⟨("Floor", some m), m, q, defArgs st, defBody st, defScope st, [], []⟩
def fn : List He.DefD := [dGlo "list_places" sPlaces, dGlo "common_order" sOrder, dGlo "paired" sPaired, dGlo "units_of" sUnits, dGlo "primes_of" sPrimes, dGlo "polynomial_of" sPoly, dGlo "_stretched" sStr, dGlo "_divided" sDiv, dGlo "reduced" sRed, dGlo "multiplied" sMulP, dGlo "lowered" sLow, dGlo "is_integer" sIsInt, dGlo "is_integers" sIsInts, dGlo "is_order" sIsOrd, dGlo "check_order" sChkO, dGlo "check_number" sChkN, dGlo "is_number" sIsNum, dGlo "plus" sPlus, dGlo "_sum" sSumN, dGlo "times" sTimes, dGlo "_product" sProd, dGlo "are_rings" sAre, dGlo "_size" sSize, dGlo "check_rings" sChkR, dGlo "is_place" sIsPl, dGlo "check_place" sChkP, dGlo "size_of" sSizeOf, dGlo "order_of" sOrdOf, dGlo "levelled" sLev, dGlo "turned_sum" sTSum, dGlo "voices_of" sVOf, dGlo "row_behind" sBehind, dGlo "is_zero" sIsZero, dGlo "is_row" sIsRow, dGlo "is_whole" sIsWhole, dGlo "check_row" sChkRow, dGlo "check_whole" sChkWhole, dGlo "row_of" sRowOf, dGlo "whole_of" sWholeOf, dGlo "voice" sVoice, dGlo "voices" sVoices, dGlo "row_back" sBack, dGlo "filled" sFilled, dGlo "sounding" sSounding, dGlo "_places_of_some" sSome, dGlo "_law_deck" sDeck, dGlo "_law_draw" sDraw, dGlo "_law_pick" sPick, dGlo "_law_gcd" sLGcd, dGlo "_law_order" sLOrder, dGlo "_law_places" sLPlaces, dGlo "_law_ring" sLRing, dGlo "_law_made" sLMade, dGlo "_law_times" sLTimes, dGlo "_law_plus" sLPlus, dGlo "_law_rings" sLRings, dGlo "_law_number" sLNumber, dGlo "_law_voices" sLVoices, dGlo "_law_row" sLRow, dGlo "_law_is_zero" sLIsZero, dGlo "_law_whole_of" sLWholeOf, dGlo "law" sLaw] ++ [dMe "tops_of" "Floor.tops_of" sFTops, dMe "__init__" "Floor.__init__" sFInit, dMe "pairing_of" "Floor.pairing_of" sFPair]
def fa : List He.Fa := [.glo "list_places", .glo "common_order", .glo "paired", .glo "units_of", .glo "primes_of", .glo "polynomial_of", .glo "_stretched", .glo "_divided", .glo "reduced", .glo "multiplied", .glo "lowered", .glo "is_integer", .glo "is_integers", .glo "is_order", .glo "check_order", .glo "check_number", .glo "is_number", .glo "plus", .glo "_sum", .glo "times", .glo "_product", .glo "are_rings", .glo "_size", .glo "check_rings", .glo "is_place", .glo "check_place", .glo "size_of", .glo "order_of", .glo "levelled", .glo "turned_sum", .glo "voices_of", .glo "row_behind", .glo "is_zero", .glo "is_row", .glo "is_whole", .glo "check_row", .glo "check_whole", .glo "row_of", .glo "whole_of", .glo "voice", .glo "voices", .glo "row_back", .glo "filled", .glo "sounding", .glo "_places_of_some", .glo "_law_deck", .glo "_law_draw", .glo "_law_pick", .glo "_law_gcd", .glo "_law_order", .glo "_law_places", .glo "_law_ring", .glo "_law_made", .glo "_law_times", .glo "_law_plus", .glo "_law_rings", .glo "_law_number", .glo "_law_voices", .glo "_law_row", .glo "_law_is_zero", .glo "_law_whole_of", .glo "law"] ++ blt.map .free ++ [.free "any", .int "MOST_RINGS" 4, .int "MOST_PLACES" 60, .int "MOST_ORDER" 60, .glo "Floor", .cls "Floor", .noat "Floor" "rings", .noat "Floor" "order", .noat "Floor" "polynomial", .noat "Floor" "degree", .noat "Floor" "places", .mkr "Floor", .meth "Floor" "pairing_of", .meth "Floor" "tops_of"]
def ex (K : PySem.W.Frag) : Bool := He.eqO (PySem.W.nsIn K mainGlobals "gcd") (some (some (.builtin "math.gcd"))) && He.eqO (PySem.W.nsIn K mainGlobals "lcm") (some (some (.builtin "math.lcm")))
end K08

/-! The law's end. -/
namespace K08
open PySem PySem.Spec PyProof.Rows L2
abbrev LW : PySem.W.OpenLaw := PySem.Challenge.rw_ringvoices_k08_whole_voices_and_rows_bac
abbrev PL : Program := LW.prog
/-! ### a law whose promise stands at the first caller alone -/
theorem law_callA {P : Program} {w : World} {K : PySem.W.Frag} {mg mb : Str → Option Value} {CX : CXT} {fa a : Addr} {fd : FuncData} {x : Str} {sp : Sp} {s₁ : Shared} {vs : List Value} {ns : List Int}
    (KX : K.In s₁.heap) (hns : s₁.heap.Ns mainGlobals mg) (hb : s₁.heap.Ns builtinsNs mb) (hbb : ∀ x : Str, x ≠ "__name__" → mb x = bootBuiltins x) (hlim : s₁.heap.NoLimit) (hg : s₁.gens = #[])
    (ha : s₁.heap.get? a = some { cls := .type "list", data := .seq vs.toArray }) (hi : IntsAre vs ns) (hl : ns.length ≤ sizeLine)
    (F : ∀ base : Heap, K.In base → base.Ns mainGlobals mg → ∀ (s : Shared) (H : Hp) (args : Args) (us : List Value) (vs : List V) (Q : VK) (E : XK), Env0 P w K mg base callerA [] s H → BindsTo s fd args ([x].zip us) → Vals vs us → sp vs H Q E → codeAny (model P w) callerA (.call (.ref fa) args) (CR CX [] P w H s Q E) s) (hbind : ∀ (s : Shared) (u : Value), BindsTo s fd ⟨[u], []⟩ [(x, u)])
    (hsp : ∀ H : Hp, Only H → SqL K H a (ns.map V.int) → sp [.ref a] H (fun v _ => v = .bl true) fun _ _ _ => False)
    (hCX : ∀ H e s', CX [] H s₁ (fun _ _ _ => False) e s' → False) :
    codeAny (model P w) callerA (.call (.ref fa) ⟨[.ref a], []⟩) (fun r s' => r = .ok (.ret (.bool true)) ∧ OldK s₁.heap s'.heap ∧ s'.os = s₁.os ∧ AllBare s'.gens) s₁ := by
  have rv := vals_ints hi
  have lenV := hi.length
  -- from an abstract heap in which nothing but the script may be tracked
  have core : ∀ H : Hp, Only H → SqL K H a (ns.map V.int) → HOk P w H s₁.heap → (∀ b, H b ≠ none → b = a) → (H a ≠ none → K.lookup a = none) →
      codeAny (model P w) callerA (.call (.ref fa) ⟨[.ref a], []⟩) (fun r s' => r = .ok (.ret (.bool true)) ∧ OldK s₁.heap s'.heap ∧ s'.os = s₁.os ∧ AllBare s'.gens) s₁ := by
    intro H hO hS hok hA hK
    have base_of : ∀ {b : Addr} {o : Obj}, s₁.heap.get? b = some o → H b = none → (hidT s₁.heap H).get? b = some o := fun e n => hidT_get e n
    have noA : ∀ {b : Addr} {o : Obj} {es : Array DictEntry} {ep : Nat}, s₁.heap.get? b = some o → o.data = .dict es ep → H b = none := fun {b o es ep} e d => by
      cases q : H b with
      | none => rfl
      | some u =>
        have e' : b = a := hA b (by rw [q]; simp)
        subst e'
        rw [ha] at e; cases e
        have d' : Data.seq vs.toArray _ = Data.dict es ep := d
        cases d'
    have nsK : ∀ {b : Addr} {m : Str → Option Value}, s₁.heap.Ns b m → (hidT s₁.heap H).Ns b m := fun {b m} ⟨o, es, ep, e, d, r⟩ => ⟨o, es, ep, base_of e (noA e d), d, r⟩
    have hKb : K.In (hidT s₁.heap H) := fun b o e => base_of (KX b o e) (by
      cases q : H b with
      | none => rfl
      | some u =>
        have e' : b = a := hA b (by rw [q]; simp)
        subst e'
        rw [hK (by rw [q]; simp)] at e; cases e)
    have hM : Mod K mg (hidT s₁.heap H) := ⟨hKb, nsK hns, ⟨mb, nsK hb, hbb⟩, let ⟨mc, h1, h2⟩ := hlim; ⟨mc, nsK h1, h2⟩⟩
    have e0 : Env0 P w K mg (hidT s₁.heap H) callerA [] s₁ H := ⟨rfl, hM, fun b o e => of_hidT e, Nat.le_of_eq (hidT_size _ _), trivial, fun b hb => absurd (show b ∈ ([] : List Addr) from hb) (by simp), hok, .of_eq hg⟩
    refine codeAny_mono (F _ hKb (nsK hns) s₁ H ⟨[.ref a], []⟩ [.ref a] [.ref a] _ _ e0 (hbind s₁ (.ref a)) (.cons rfl .nil) (hsp H hO hS)) fun r s' h => ?_
    cases r with
    | error e => exact (hCX H e s' h).elim
    | ok fl =>
      cases fl with
      | next => exact False.elim h
      | brk => exact False.elim h
      | cont => exact False.elim h
      | ret u =>
        obtain ⟨v, H', os, bare, un, hok', r', q⟩ := h
        have q' : v = .bl true := q
        subst q'
        obtain rfl : u = Value.bool true := r'
        refine ⟨rfl, OldK.of_keep fun b o e => ?_, os, bare⟩
        cases q : H b with
        | none => exact un.keep b o e q (by intro z; exact absurd (show b ∈ ([] : List Addr) from z) (by simp)) (by simp)
        | some u =>
          rcases hO b with z | ⟨ob, xs, z⟩
          · rw [q] at z; cases z
          · have z2 := un.frzs b ob _ z
            obtain ⟨e1, _⟩ := hok b _ z
            obtain ⟨e2, _⟩ := hok' b _ z2
            rw [e] at e1; cases e1
            exact e2
  cases hk : K.lookup a with
  | some o =>
    -- the script is one of the module's own objects
    have e := KX a o hk
    rw [ha] at e
    cases e
    refine core (fun _ => none) (fun _ => .inl rfl) (.inr ⟨_, vs.toArray, _, hk, rfl, rfl, rfl, by rw [List.size_toArray, lenV]; exact hl, by simpa using rv⟩) (fun b u z => by have z' : (none : Option HO) = some u := z; cases z') (fun b z => absurd rfl z) fun z => absurd rfl z
  | none =>
    refine core (fun b => if b = a then some (.frz { cls := .type "list", data := .seq vs.toArray } (.lst (ns.map V.int))) else none) (fun b => ?_) (.inl (.inr ⟨{ cls := .type "list", data := .seq vs.toArray }, if_pos rfl⟩)) (fun b u z => ?_) (fun b z => ?_) fun _ => hk
    · by_cases hb : b = a
      · exact .inr ⟨_, _, if_pos hb⟩
      · exact .inl (if_neg hb)
    · by_cases hb : b = a
      · have z' := (if_pos hb).symm.trans z
        cases z'
        subst hb
        exact ⟨ha, by rw [List.length_map]; exact hl, vs, _, rv, ha⟩
      · have z' := (if_neg hb).symm.trans z
        cases z'
    · by_cases hb : b = a
      · exact hb
      · exact absurd (if_neg hb) z
theorem walk_ofA {l : PySem.W.OpenLaw} {n : Nat} {q : Program} {loose : List Str} {XP : (Str → Option Value) → Heap → Prop} {YP : World → Heap → Prop} {d : DefRec} {CX : CXT} {x : Str}
    (hn : l.most = some n) (hn2 : n ≤ sizeLine) (hdf : d.params.defaults = [])
    (F : ∀ (w : World) (mg : Str → Option Value) (fa : Addr) (h : Heap), YP w h → h.Ns mainGlobals mg → mg d.name = some (.ref fa) →
      ∃ (K : PySem.W.Frag) (fd : FuncData) (sp : Sp), K.In h ∧ (∀ (s : Shared) (u : Value), BindsTo s fd ⟨[u], []⟩ [(x, u)]) ∧
        (∀ (H : Hp) (a : Addr) (ns : List Int), ns.length ≤ n → Only H → SqL K H a (ns.map V.int) → sp [.ref a] H (fun v _ => v = .bl true) fun _ _ _ => False) ∧
        ∀ base : Heap, K.In base → base.Ns mainGlobals mg → ∀ (s : Shared) (H : Hp) (args : Args) (us : List Value) (vs : List V) (Q : VK) (E : XK), Env0 l.prog w K mg base callerA [] s H → BindsTo s fd args ([x].zip us) → Vals vs us → sp vs H Q E → codeAny (model l.prog w) callerA (.call (.ref fa) args) (CR CX [] l.prog w H s Q E) s)
    (hCX : ∀ (H : Hp) (s : Shared) (e : Value) (s' : Shared), CX [] H s (fun _ _ _ => False) e s' → False) :
    PySem.W.WalkO q loose XP YP l.row.toRowW d [] (fun f vs => PySem.call f vs) := by
  refine Att.attach_call hn hdf fun w s₀ s₁ mg mb fa o pm cd doc a vs ns G Y ho hd hcd hmg hobj hints hlen hg => ?_
  obtain ⟨K, fd, sp, KX, hb, hsp, hF⟩ := F w mg fa _ Y G.T.g hmg
  exact law_callA KX G.T.g G.T.b G.T.builtins G.T.nolimit hg hobj hints (Nat.le_trans hlen hn2) hF hb (fun H hO hS => hsp H a ns hlen hO hS) fun H e s' => hCX H s₁ e s'
end K08

/-! The law holds. -/
namespace K08
open PySem PySem.Spec PyProof.Rows L2
section
variable {w : World} {K : PySem.W.Frag} {mg : Str → Option Value} {base h : Heap} {f : Addr}
theorem facts (X : K.In h) (G : h.Ns mainGlobals mg) (hfa : mg ("law" : Str) = some (.ref f)) (c : He.SaysD fa fn K) (c2 : ex K = true) :
    ∃ fd : FuncData, (∀ (s : Shared) (v : Value), BindsTo s fd ⟨[v], []⟩ [("script", v)]) ∧ ∀ base : Heap, K.In base → base.Ns mainGlobals mg → ∀ (s : Shared) (H : Hp) (args : Args) (us : List Value) (vs : List V) (Q : VK) (E : XK), Env0 PL w K mg base callerA [] s H → BindsTo s fd args ((["script"] : List Str).zip us) → Vals vs us → spLaw K vs H Q E → codeAny (model PL w) callerA (.call (.ref f) args) (CR CX0 [] PL w H s Q E) s := by
  obtain ⟨d_list_places, F_list_places⟩ := c.def_ 0 (d := dGlo "list_places" sPlaces) rfl
  obtain ⟨d_common_order, F_common_order⟩ := c.def_ 1 (d := dGlo "common_order" sOrder) rfl
  obtain ⟨d_paired, F_paired⟩ := c.def_ 2 (d := dGlo "paired" sPaired) rfl
  obtain ⟨d_units_of, F_units_of⟩ := c.def_ 3 (d := dGlo "units_of" sUnits) rfl
  obtain ⟨d_primes_of, F_primes_of⟩ := c.def_ 4 (d := dGlo "primes_of" sPrimes) rfl
  obtain ⟨d_polynomial_of, F_polynomial_of⟩ := c.def_ 5 (d := dGlo "polynomial_of" sPoly) rfl
  obtain ⟨d__stretched, F__stretched⟩ := c.def_ 6 (d := dGlo "_stretched" sStr) rfl
  obtain ⟨d__divided, F__divided⟩ := c.def_ 7 (d := dGlo "_divided" sDiv) rfl
  obtain ⟨d_reduced, F_reduced⟩ := c.def_ 8 (d := dGlo "reduced" sRed) rfl
  obtain ⟨d_multiplied, F_multiplied⟩ := c.def_ 9 (d := dGlo "multiplied" sMulP) rfl
  obtain ⟨d_lowered, F_lowered⟩ := c.def_ 10 (d := dGlo "lowered" sLow) rfl
  obtain ⟨d_is_integer, F_is_integer⟩ := c.def_ 11 (d := dGlo "is_integer" sIsInt) rfl
  obtain ⟨d_is_integers, F_is_integers⟩ := c.def_ 12 (d := dGlo "is_integers" sIsInts) rfl
  obtain ⟨d_is_order, F_is_order⟩ := c.def_ 13 (d := dGlo "is_order" sIsOrd) rfl
  obtain ⟨d_check_order, F_check_order⟩ := c.def_ 14 (d := dGlo "check_order" sChkO) rfl
  obtain ⟨d_check_number, F_check_number⟩ := c.def_ 15 (d := dGlo "check_number" sChkN) rfl
  obtain ⟨d_is_number, F_is_number⟩ := c.def_ 16 (d := dGlo "is_number" sIsNum) rfl
  obtain ⟨d_plus, F_plus⟩ := c.def_ 17 (d := dGlo "plus" sPlus) rfl
  obtain ⟨d__sum, F__sum⟩ := c.def_ 18 (d := dGlo "_sum" sSumN) rfl
  obtain ⟨d_times, F_times⟩ := c.def_ 19 (d := dGlo "times" sTimes) rfl
  obtain ⟨d__product, F__product⟩ := c.def_ 20 (d := dGlo "_product" sProd) rfl
  obtain ⟨d_are_rings, F_are_rings⟩ := c.def_ 21 (d := dGlo "are_rings" sAre) rfl
  obtain ⟨d__size, F__size⟩ := c.def_ 22 (d := dGlo "_size" sSize) rfl
  obtain ⟨d_check_rings, F_check_rings⟩ := c.def_ 23 (d := dGlo "check_rings" sChkR) rfl
  obtain ⟨d_is_place, F_is_place⟩ := c.def_ 24 (d := dGlo "is_place" sIsPl) rfl
  obtain ⟨d_check_place, F_check_place⟩ := c.def_ 25 (d := dGlo "check_place" sChkP) rfl
  obtain ⟨d_size_of, F_size_of⟩ := c.def_ 26 (d := dGlo "size_of" sSizeOf) rfl
  obtain ⟨d_order_of, F_order_of⟩ := c.def_ 27 (d := dGlo "order_of" sOrdOf) rfl
  obtain ⟨d_levelled, F_levelled⟩ := c.def_ 28 (d := dGlo "levelled" sLev) rfl
  obtain ⟨d_turned_sum, F_turned_sum⟩ := c.def_ 29 (d := dGlo "turned_sum" sTSum) rfl
  obtain ⟨d_voices_of, F_voices_of⟩ := c.def_ 30 (d := dGlo "voices_of" sVOf) rfl
  obtain ⟨d_row_behind, F_row_behind⟩ := c.def_ 31 (d := dGlo "row_behind" sBehind) rfl
  obtain ⟨d_is_zero, F_is_zero⟩ := c.def_ 32 (d := dGlo "is_zero" sIsZero) rfl
  obtain ⟨d_is_row, F_is_row⟩ := c.def_ 33 (d := dGlo "is_row" sIsRow) rfl
  obtain ⟨d_is_whole, F_is_whole⟩ := c.def_ 34 (d := dGlo "is_whole" sIsWhole) rfl
  obtain ⟨d_check_row, F_check_row⟩ := c.def_ 35 (d := dGlo "check_row" sChkRow) rfl
  obtain ⟨d_check_whole, F_check_whole⟩ := c.def_ 36 (d := dGlo "check_whole" sChkWhole) rfl
  obtain ⟨d_row_of, F_row_of⟩ := c.def_ 37 (d := dGlo "row_of" sRowOf) rfl
  obtain ⟨d_whole_of, F_whole_of⟩ := c.def_ 38 (d := dGlo "whole_of" sWholeOf) rfl
  obtain ⟨d_voice, F_voice⟩ := c.def_ 39 (d := dGlo "voice" sVoice) rfl
  obtain ⟨d_voices, F_voices⟩ := c.def_ 40 (d := dGlo "voices" sVoices) rfl
  obtain ⟨d_row_back, F_row_back⟩ := c.def_ 41 (d := dGlo "row_back" sBack) rfl
  obtain ⟨d_filled, F_filled⟩ := c.def_ 42 (d := dGlo "filled" sFilled) rfl
  obtain ⟨d_sounding, F_sounding⟩ := c.def_ 43 (d := dGlo "sounding" sSounding) rfl
  obtain ⟨d__places_of_some, F__places_of_some⟩ := c.def_ 44 (d := dGlo "_places_of_some" sSome) rfl
  obtain ⟨d__law_deck, F__law_deck⟩ := c.def_ 45 (d := dGlo "_law_deck" sDeck) rfl
  obtain ⟨d__law_draw, F__law_draw⟩ := c.def_ 46 (d := dGlo "_law_draw" sDraw) rfl
  obtain ⟨d__law_pick, F__law_pick⟩ := c.def_ 47 (d := dGlo "_law_pick" sPick) rfl
  obtain ⟨d__law_gcd, F__law_gcd⟩ := c.def_ 48 (d := dGlo "_law_gcd" sLGcd) rfl
  obtain ⟨d__law_order, F__law_order⟩ := c.def_ 49 (d := dGlo "_law_order" sLOrder) rfl
  obtain ⟨d__law_places, F__law_places⟩ := c.def_ 50 (d := dGlo "_law_places" sLPlaces) rfl
  obtain ⟨d__law_ring, F__law_ring⟩ := c.def_ 51 (d := dGlo "_law_ring" sLRing) rfl
  obtain ⟨d__law_made, F__law_made⟩ := c.def_ 52 (d := dGlo "_law_made" sLMade) rfl
  obtain ⟨d__law_times, F__law_times⟩ := c.def_ 53 (d := dGlo "_law_times" sLTimes) rfl
  obtain ⟨d__law_plus, F__law_plus⟩ := c.def_ 54 (d := dGlo "_law_plus" sLPlus) rfl
  obtain ⟨d__law_rings, F__law_rings⟩ := c.def_ 55 (d := dGlo "_law_rings" sLRings) rfl
  obtain ⟨d__law_number, F__law_number⟩ := c.def_ 56 (d := dGlo "_law_number" sLNumber) rfl
  obtain ⟨d__law_voices, F__law_voices⟩ := c.def_ 57 (d := dGlo "_law_voices" sLVoices) rfl
  obtain ⟨d__law_row, F__law_row⟩ := c.def_ 58 (d := dGlo "_law_row" sLRow) rfl
  obtain ⟨d__law_is_zero, F__law_is_zero⟩ := c.def_ 59 (d := dGlo "_law_is_zero" sLIsZero) rfl
  obtain ⟨d__law_whole_of, F__law_whole_of⟩ := c.def_ 60 (d := dGlo "_law_whole_of" sLWholeOf) rfl
  obtain ⟨d_law, F_law⟩ := c.def_ 61 (d := dGlo "law" sLaw) rfl
  obtain ⟨d_Floor_tops_of, F_Floor_tops_of⟩ := c.def_ 62 (d := dMe "tops_of" "Floor.tops_of" sFTops) rfl
  obtain ⟨d_Floor___init__, F_Floor___init__⟩ := c.def_ 63 (d := dMe "__init__" "Floor.__init__" sFInit) rfl
  obtain ⟨d_Floor_pairing_of, F_Floor_pairing_of⟩ := c.def_ 64 (d := dMe "pairing_of" "Floor.pairing_of" sFPair) rfl
  have e := hfa.symm.trans (He.glo_ok X G (c.fact 61 (f := .glo "law") rfl))
  cases e
  have b := FunD.bindsA (ps := ["script"]) F_law fun _ _ _ _ _ _ us hl => match us, hl with | [_], _ => rfl
  refine ⟨d_law, fun s v => b s [v] rfl, fun base hKb hGb s H args us vs Q E e0 hb r hsp => ?_⟩
  have B : Bl mg := fun x hx => He.free_ok X G (c.facts (f := .free x) (List.mem_append_left _ (List.mem_append_right _ (List.mem_map_of_mem hx))))
  obtain ⟨x1, x2⟩ := He.ba c2
  have gG : mg ("gcd" : Str) = some (.builtin "math.gcd") := PySem.W.mg_of X G (He.eqO_ok x1)
  have gL : mg ("lcm" : Str) = some (.builtin "math.lcm") := PySem.W.mg_of X G (He.eqO_ok x2)
  have Ba : mg ("any" : Str) = none := He.free_ok X G (c.fact 79 (f := .free "any") rfl)
  have gR : ∃ t, mg ("MOST_RINGS" : Str) = some (.int 4 t) := He.int_ok X G (c.fact 80 (f := .int "MOST_RINGS" 4) rfl)
  have gP : ∃ t, mg ("MOST_PLACES" : Str) = some (.int 60 t) := He.int_ok X G (c.fact 81 (f := .int "MOST_PLACES" 60) rfl)
  have gO : ∃ t, mg ("MOST_ORDER" : Str) = some (.int 60 t) := He.int_ok X G (c.fact 82 (f := .int "MOST_ORDER" 60) rfl)
  have T : FlT K mg (He.ga K "Floor") (He.ma K (He.ga K "Floor") "__init__") (He.ma K (He.ga K "Floor") "pairing_of") := {
    cl := He.cls_ok (c.fact 84 (f := .cls "Floor") rfl)
    aR := He.noat_ok (c.fact 85 (f := .noat "Floor" "rings") rfl)
    aO := He.noat_ok (c.fact 86 (f := .noat "Floor" "order") rfl)
    aP := He.noat_ok (c.fact 87 (f := .noat "Floor" "polynomial") rfl)
    aD := He.noat_ok (c.fact 88 (f := .noat "Floor" "degree") rfl)
    aL := He.noat_ok (c.fact 89 (f := .noat "Floor" "places") rfl)
    mkk := He.mkr_ok (c.fact 90 (f := .mkr "Floor") rfl)
    mt := He.meth_ok (c.fact 91 (f := .meth "Floor" "pairing_of") rfl)
    mgC := He.glo_ok X G (c.fact 83 (f := .glo "Floor") rfl) }
  have MT := He.meth_ok (c.fact 92 (f := .meth "Floor" "tops_of") rfl)
  have g_list_places : mg ("list_places" : Str) = some (.ref (He.ga K "list_places")) := He.glo_ok X G (c.fact 0 (f := .glo "list_places") rfl)
  have g_common_order : mg ("common_order" : Str) = some (.ref (He.ga K "common_order")) := He.glo_ok X G (c.fact 1 (f := .glo "common_order") rfl)
  have g_paired : mg ("paired" : Str) = some (.ref (He.ga K "paired")) := He.glo_ok X G (c.fact 2 (f := .glo "paired") rfl)
  have g_units_of : mg ("units_of" : Str) = some (.ref (He.ga K "units_of")) := He.glo_ok X G (c.fact 3 (f := .glo "units_of") rfl)
  have g_primes_of : mg ("primes_of" : Str) = some (.ref (He.ga K "primes_of")) := He.glo_ok X G (c.fact 4 (f := .glo "primes_of") rfl)
  have g_polynomial_of : mg ("polynomial_of" : Str) = some (.ref (He.ga K "polynomial_of")) := He.glo_ok X G (c.fact 5 (f := .glo "polynomial_of") rfl)
  have g__stretched : mg ("_stretched" : Str) = some (.ref (He.ga K "_stretched")) := He.glo_ok X G (c.fact 6 (f := .glo "_stretched") rfl)
  have g__divided : mg ("_divided" : Str) = some (.ref (He.ga K "_divided")) := He.glo_ok X G (c.fact 7 (f := .glo "_divided") rfl)
  have g_reduced : mg ("reduced" : Str) = some (.ref (He.ga K "reduced")) := He.glo_ok X G (c.fact 8 (f := .glo "reduced") rfl)
  have g_multiplied : mg ("multiplied" : Str) = some (.ref (He.ga K "multiplied")) := He.glo_ok X G (c.fact 9 (f := .glo "multiplied") rfl)
  have g_lowered : mg ("lowered" : Str) = some (.ref (He.ga K "lowered")) := He.glo_ok X G (c.fact 10 (f := .glo "lowered") rfl)
  have g_is_integer : mg ("is_integer" : Str) = some (.ref (He.ga K "is_integer")) := He.glo_ok X G (c.fact 11 (f := .glo "is_integer") rfl)
  have g_is_integers : mg ("is_integers" : Str) = some (.ref (He.ga K "is_integers")) := He.glo_ok X G (c.fact 12 (f := .glo "is_integers") rfl)
  have g_is_order : mg ("is_order" : Str) = some (.ref (He.ga K "is_order")) := He.glo_ok X G (c.fact 13 (f := .glo "is_order") rfl)
  have g_check_order : mg ("check_order" : Str) = some (.ref (He.ga K "check_order")) := He.glo_ok X G (c.fact 14 (f := .glo "check_order") rfl)
  have g_check_number : mg ("check_number" : Str) = some (.ref (He.ga K "check_number")) := He.glo_ok X G (c.fact 15 (f := .glo "check_number") rfl)
  have g_is_number : mg ("is_number" : Str) = some (.ref (He.ga K "is_number")) := He.glo_ok X G (c.fact 16 (f := .glo "is_number") rfl)
  have g_plus : mg ("plus" : Str) = some (.ref (He.ga K "plus")) := He.glo_ok X G (c.fact 17 (f := .glo "plus") rfl)
  have g__sum : mg ("_sum" : Str) = some (.ref (He.ga K "_sum")) := He.glo_ok X G (c.fact 18 (f := .glo "_sum") rfl)
  have g_times : mg ("times" : Str) = some (.ref (He.ga K "times")) := He.glo_ok X G (c.fact 19 (f := .glo "times") rfl)
  have g__product : mg ("_product" : Str) = some (.ref (He.ga K "_product")) := He.glo_ok X G (c.fact 20 (f := .glo "_product") rfl)
  have g_are_rings : mg ("are_rings" : Str) = some (.ref (He.ga K "are_rings")) := He.glo_ok X G (c.fact 21 (f := .glo "are_rings") rfl)
  have g__size : mg ("_size" : Str) = some (.ref (He.ga K "_size")) := He.glo_ok X G (c.fact 22 (f := .glo "_size") rfl)
  have g_check_rings : mg ("check_rings" : Str) = some (.ref (He.ga K "check_rings")) := He.glo_ok X G (c.fact 23 (f := .glo "check_rings") rfl)
  have g_is_place : mg ("is_place" : Str) = some (.ref (He.ga K "is_place")) := He.glo_ok X G (c.fact 24 (f := .glo "is_place") rfl)
  have g_check_place : mg ("check_place" : Str) = some (.ref (He.ga K "check_place")) := He.glo_ok X G (c.fact 25 (f := .glo "check_place") rfl)
  have g_size_of : mg ("size_of" : Str) = some (.ref (He.ga K "size_of")) := He.glo_ok X G (c.fact 26 (f := .glo "size_of") rfl)
  have g_order_of : mg ("order_of" : Str) = some (.ref (He.ga K "order_of")) := He.glo_ok X G (c.fact 27 (f := .glo "order_of") rfl)
  have g_levelled : mg ("levelled" : Str) = some (.ref (He.ga K "levelled")) := He.glo_ok X G (c.fact 28 (f := .glo "levelled") rfl)
  have g_turned_sum : mg ("turned_sum" : Str) = some (.ref (He.ga K "turned_sum")) := He.glo_ok X G (c.fact 29 (f := .glo "turned_sum") rfl)
  have g_voices_of : mg ("voices_of" : Str) = some (.ref (He.ga K "voices_of")) := He.glo_ok X G (c.fact 30 (f := .glo "voices_of") rfl)
  have g_row_behind : mg ("row_behind" : Str) = some (.ref (He.ga K "row_behind")) := He.glo_ok X G (c.fact 31 (f := .glo "row_behind") rfl)
  have g_is_zero : mg ("is_zero" : Str) = some (.ref (He.ga K "is_zero")) := He.glo_ok X G (c.fact 32 (f := .glo "is_zero") rfl)
  have g_is_row : mg ("is_row" : Str) = some (.ref (He.ga K "is_row")) := He.glo_ok X G (c.fact 33 (f := .glo "is_row") rfl)
  have g_is_whole : mg ("is_whole" : Str) = some (.ref (He.ga K "is_whole")) := He.glo_ok X G (c.fact 34 (f := .glo "is_whole") rfl)
  have g_check_row : mg ("check_row" : Str) = some (.ref (He.ga K "check_row")) := He.glo_ok X G (c.fact 35 (f := .glo "check_row") rfl)
  have g_check_whole : mg ("check_whole" : Str) = some (.ref (He.ga K "check_whole")) := He.glo_ok X G (c.fact 36 (f := .glo "check_whole") rfl)
  have g_row_of : mg ("row_of" : Str) = some (.ref (He.ga K "row_of")) := He.glo_ok X G (c.fact 37 (f := .glo "row_of") rfl)
  have g_whole_of : mg ("whole_of" : Str) = some (.ref (He.ga K "whole_of")) := He.glo_ok X G (c.fact 38 (f := .glo "whole_of") rfl)
  have g_voice : mg ("voice" : Str) = some (.ref (He.ga K "voice")) := He.glo_ok X G (c.fact 39 (f := .glo "voice") rfl)
  have g_voices : mg ("voices" : Str) = some (.ref (He.ga K "voices")) := He.glo_ok X G (c.fact 40 (f := .glo "voices") rfl)
  have g_row_back : mg ("row_back" : Str) = some (.ref (He.ga K "row_back")) := He.glo_ok X G (c.fact 41 (f := .glo "row_back") rfl)
  have g_filled : mg ("filled" : Str) = some (.ref (He.ga K "filled")) := He.glo_ok X G (c.fact 42 (f := .glo "filled") rfl)
  have g_sounding : mg ("sounding" : Str) = some (.ref (He.ga K "sounding")) := He.glo_ok X G (c.fact 43 (f := .glo "sounding") rfl)
  have g__places_of_some : mg ("_places_of_some" : Str) = some (.ref (He.ga K "_places_of_some")) := He.glo_ok X G (c.fact 44 (f := .glo "_places_of_some") rfl)
  have g__law_deck : mg ("_law_deck" : Str) = some (.ref (He.ga K "_law_deck")) := He.glo_ok X G (c.fact 45 (f := .glo "_law_deck") rfl)
  have g__law_draw : mg ("_law_draw" : Str) = some (.ref (He.ga K "_law_draw")) := He.glo_ok X G (c.fact 46 (f := .glo "_law_draw") rfl)
  have g__law_pick : mg ("_law_pick" : Str) = some (.ref (He.ga K "_law_pick")) := He.glo_ok X G (c.fact 47 (f := .glo "_law_pick") rfl)
  have g__law_gcd : mg ("_law_gcd" : Str) = some (.ref (He.ga K "_law_gcd")) := He.glo_ok X G (c.fact 48 (f := .glo "_law_gcd") rfl)
  have g__law_order : mg ("_law_order" : Str) = some (.ref (He.ga K "_law_order")) := He.glo_ok X G (c.fact 49 (f := .glo "_law_order") rfl)
  have g__law_places : mg ("_law_places" : Str) = some (.ref (He.ga K "_law_places")) := He.glo_ok X G (c.fact 50 (f := .glo "_law_places") rfl)
  have g__law_ring : mg ("_law_ring" : Str) = some (.ref (He.ga K "_law_ring")) := He.glo_ok X G (c.fact 51 (f := .glo "_law_ring") rfl)
  have g__law_made : mg ("_law_made" : Str) = some (.ref (He.ga K "_law_made")) := He.glo_ok X G (c.fact 52 (f := .glo "_law_made") rfl)
  have g__law_times : mg ("_law_times" : Str) = some (.ref (He.ga K "_law_times")) := He.glo_ok X G (c.fact 53 (f := .glo "_law_times") rfl)
  have g__law_plus : mg ("_law_plus" : Str) = some (.ref (He.ga K "_law_plus")) := He.glo_ok X G (c.fact 54 (f := .glo "_law_plus") rfl)
  have g__law_rings : mg ("_law_rings" : Str) = some (.ref (He.ga K "_law_rings")) := He.glo_ok X G (c.fact 55 (f := .glo "_law_rings") rfl)
  have g__law_number : mg ("_law_number" : Str) = some (.ref (He.ga K "_law_number")) := He.glo_ok X G (c.fact 56 (f := .glo "_law_number") rfl)
  have g__law_voices : mg ("_law_voices" : Str) = some (.ref (He.ga K "_law_voices")) := He.glo_ok X G (c.fact 57 (f := .glo "_law_voices") rfl)
  have g__law_row : mg ("_law_row" : Str) = some (.ref (He.ga K "_law_row")) := He.glo_ok X G (c.fact 58 (f := .glo "_law_row") rfl)
  have g__law_is_zero : mg ("_law_is_zero" : Str) = some (.ref (He.ga K "_law_is_zero")) := He.glo_ok X G (c.fact 59 (f := .glo "_law_is_zero") rfl)
  have g__law_whole_of : mg ("_law_whole_of" : Str) = some (.ref (He.ga K "_law_whole_of")) := He.glo_ok X G (c.fact 60 (f := .glo "_law_whole_of") rfl)
  have G_common_order : FnOk PL w K mg base CX0 1 (He.ga K "common_order") d_common_order ["rings"] (spOrder K) := ok_order F_common_order B gL
  have G_polynomial_of : FnOk PL w K mg base CX0 2 (He.ga K "polynomial_of") d_polynomial_of ["order"] (spPoly K) := ok_poly F_polynomial_of B F_primes_of g_primes_of F__divided g__divided F__stretched g__stretched
  have G_list_places : FnOk PL w K mg base CX0 1 (He.ga K "list_places") d_list_places ["rings"] (spPlaces K) := ok_places F_list_places B
  have G_Floor___init__ : FnOk PL w K mg base CX0 3 (He.ma K (He.ga K "Floor") "__init__") d_Floor___init__ ["self", "rings"] (spFInit K (He.ga K "Floor")) := ok_fInit F_Floor___init__ B T F_common_order g_common_order G_common_order F_polynomial_of g_polynomial_of G_polynomial_of F_list_places g_list_places G_list_places
  have G_is_integers : FnOk PL w K mg base CX0 2 (He.ga K "is_integers") d_is_integers ["thing"] (spIsInts K) := ok_isInts F_is_integers B F_is_integer g_is_integer
  have G_are_rings : FnOk PL w K mg base CX0 3 (He.ga K "are_rings") d_are_rings ["thing"] (spAre K) := ok_are F_are_rings B F_is_integers g_is_integers G_is_integers F__size g__size gR gP
  have G_check_rings : FnOk PL w K mg base CX0 4 (He.ga K "check_rings") d_check_rings ["rings"] (spNon K) := ok_chkR F_check_rings F_are_rings g_are_rings G_are_rings
  have G_size_of : FnOk PL w K mg base CX0 5 (He.ga K "size_of") d_size_of ["rings"] (spSzOf K) := ok_szOf F_size_of F_check_rings g_check_rings G_check_rings F__size g__size
  have G_order_of : FnOk PL w K mg base CX0 5 (He.ga K "order_of") d_order_of ["rings"] (spOrder K) := ok_ordOf F_order_of F_check_rings g_check_rings G_check_rings F_common_order g_common_order G_common_order
  have G_is_integer : FnOk PL w K mg base CX0 1 (He.ga K "is_integer") d_is_integer ["thing"] spIsInt := ok_isInt F_is_integer B
  have G_is_order : FnOk PL w K mg base CX0 2 (He.ga K "is_order") d_is_order ["thing"] (spOrd (.bl true)) := ok_isOrd F_is_order F_is_integer g_is_integer G_is_integer gO
  have G_check_order : FnOk PL w K mg base CX0 3 (He.ga K "check_order") d_check_order ["order"] (spOrd .non) := ok_chkO F_check_order F_is_order g_is_order G_is_order
  have G_units_of : FnOk PL w K mg base CX0 1 (He.ga K "units_of") d_units_of ["order"] spUnits := ok_units F_units_of B gG
  have G_lowered : FnOk PL w K mg base CX0 1 (He.ga K "lowered") d_lowered ["tops", "bottom"] (spLow K) := ok_low F_lowered B gG
  have G_is_number : FnOk PL w K mg base CX0 4 (He.ga K "is_number") d_is_number ["order", "thing"] (spIsNum K (.bl true)) := ok_isNum F_is_number B F_check_order g_check_order G_check_order F_is_integers g_is_integers G_is_integers F_is_integer g_is_integer G_is_integer F_units_of g_units_of G_units_of F_lowered g_lowered G_lowered
  have G_is_row : FnOk PL w K mg base CX0 6 (He.ga K "is_row") d_is_row ["rings", "thing"] (spRow K (.bl true)) := ok_isRow F_is_row B F_size_of g_size_of G_size_of F_order_of g_order_of G_order_of F_is_number g_is_number G_is_number
  have G_check_row : FnOk PL w K mg base CX0 7 (He.ga K "check_row") d_check_row ["rings", "row"] (spRow K .non) := ok_chkRow F_check_row F_is_row g_is_row G_is_row
  have G_levelled : FnOk PL w K mg base CX0 1 (He.ga K "levelled") d_levelled ["numbers"] (spLev K) := ok_lev F_levelled B gL
  have G_Floor_pairing_of : FnOk PL w K mg base CX0 2 (He.ma K (He.ga K "Floor") "pairing_of") d_Floor_pairing_of ["self", "place", "label"] (spFPair K (He.ga K "Floor")) := ok_fPair F_Floor_pairing_of B T F_paired g_paired
  have G_reduced : FnOk PL w K mg base CX0 2 (He.ga K "reduced") d_reduced ["items", "polynomial"] (spRed K) := ok_red F_reduced B F__divided g__divided
  have G_turned_sum : FnOk PL w K mg base CX0 3 (He.ga K "turned_sum") d_turned_sum ["floor", "items", "places", "label", "sign"] (spTS K (He.ga K "Floor")) := ok_tsum F_turned_sum B T F_Floor_pairing_of G_Floor_pairing_of F_reduced g_reduced G_reduced
  have G_voices_of : FnOk PL w K mg base CX0 4 (He.ga K "voices_of") d_voices_of ["floor", "row"] (spVO K (He.ga K "Floor")) := ok_vof F_voices_of B T F_levelled g_levelled G_levelled F_turned_sum g_turned_sum G_turned_sum F_lowered g_lowered G_lowered
  have G_voices : FnOk PL w K mg base CX0 8 (He.ga K "voices") d_voices ["rings", "row"] (spVoices K) := ok_voices F_voices T F_Floor___init__ G_Floor___init__ F_check_row g_check_row G_check_row F_voices_of g_voices_of G_voices_of
  have G_row_behind : FnOk PL w K mg base CX0 4 (He.ga K "row_behind") d_row_behind ["floor", "row"] (spRB K (He.ga K "Floor")) := ok_behind F_row_behind B T F_levelled g_levelled G_levelled F_turned_sum g_turned_sum G_turned_sum F_lowered g_lowered G_lowered
  have G_row_back : FnOk PL w K mg base CX0 8 (He.ga K "row_back") d_row_back ["rings", "row"] (spBack K) := ok_back F_row_back T F_Floor___init__ G_Floor___init__ F_check_row g_check_row G_check_row F_row_behind g_row_behind G_row_behind
  have G_is_place : FnOk PL w K mg base CX0 3 (He.ga K "is_place") d_is_place ["rings", "thing"] (spIsPl K) := ok_isPl F_is_place B F_is_integers g_is_integers G_is_integers
  have G_check_place : FnOk PL w K mg base CX0 5 (He.ga K "check_place") d_check_place ["rings", "place"] (spChkP K) := ok_chkP F_check_place F_check_rings g_check_rings G_check_rings F_is_place g_is_place G_is_place
  have G_voice : FnOk PL w K mg base CX0 8 (He.ga K "voice") d_voice ["rings", "row", "label"] (spVoice K) := ok_voice F_voice T F_Floor___init__ G_Floor___init__ F_check_row g_check_row G_check_row F_check_place g_check_place G_check_place F_levelled g_levelled G_levelled F_turned_sum g_turned_sum G_turned_sum F_lowered g_lowered G_lowered
  have G_check_number : FnOk PL w K mg base CX0 5 (He.ga K "check_number") d_check_number ["order", "number"] (spChkN K) := ok_chkN F_check_number F_is_number g_is_number G_is_number
  have G__sum : FnOk PL w K mg base CX0 2 (He.ga K "_sum") d__sum ["one", "other", "sign"] (spSumN K) := ok_sumN F__sum B F_lowered g_lowered G_lowered
  have G_plus : FnOk PL w K mg base CX0 6 (He.ga K "plus") d_plus ["order", "one", "other"] (spPlus K) := ok_plus F_plus F_check_number g_check_number G_check_number F__sum g__sum G__sum
  have G_multiplied : FnOk PL w K mg base CX0 3 (He.ga K "multiplied") d_multiplied ["ones", "others", "polynomial"] (spMulP K) := ok_mulP F_multiplied B F_reduced g_reduced G_reduced
  have G__product : FnOk PL w K mg base CX0 4 (He.ga K "_product") d__product ["order", "one", "other"] (spProd K) := ok_prod F__product F_multiplied g_multiplied G_multiplied F_polynomial_of g_polynomial_of G_polynomial_of F_lowered g_lowered G_lowered
  have G_times : FnOk PL w K mg base CX0 6 (He.ga K "times") d_times ["order", "one", "other"] (spTimes K) := ok_times F_times F_check_number g_check_number G_check_number F__product g__product G__product
  have G_is_zero : FnOk PL w K mg base CX0 1 (He.ga K "is_zero") d_is_zero ["number"] (spZero K) := ok_zero F_is_zero Ba
  have G__places_of_some : FnOk PL w K mg base CX0 2 (He.ga K "_places_of_some") d__places_of_some ["floor", "row"] (spSome K (He.ga K "Floor")) := ok_some F__places_of_some B T F_is_zero g_is_zero G_is_zero
  have G_filled : FnOk PL w K mg base CX0 8 (He.ga K "filled") d_filled ["rings", "row"] (spFilled K) := ok_filled F_filled T F_Floor___init__ G_Floor___init__ F_check_row g_check_row G_check_row F__places_of_some g__places_of_some G__places_of_some
  have G_sounding : FnOk PL w K mg base CX0 8 (He.ga K "sounding") d_sounding ["rings", "row"] (spSnd K) := ok_sounding F_sounding T F_Floor___init__ G_Floor___init__ F_check_row g_check_row G_check_row F__places_of_some g__places_of_some G__places_of_some F_voices_of g_voices_of G_voices_of
  have G_Floor_tops_of : FnOk PL w K mg base CX0 1 (He.ma K (He.ga K "Floor") "tops_of") d_Floor_tops_of ["self", "whole"] (spTopsOf K (He.ga K "Floor")) := ok_topsOf F_Floor_tops_of T T.aD
  have G_is_whole : FnOk PL w K mg base CX0 6 (He.ga K "is_whole") d_is_whole ["rings", "thing"] (spWhole K (.bl true)) := ok_isWhole F_is_whole B F_size_of g_size_of G_size_of F_is_integers g_is_integers G_is_integers
  have G_check_whole : FnOk PL w K mg base CX0 7 (He.ga K "check_whole") d_check_whole ["rings", "whole"] (spWhole K .non) := ok_chkWhole F_check_whole F_is_whole g_is_whole G_is_whole
  have G_row_of : FnOk PL w K mg base CX0 8 (He.ga K "row_of") d_row_of ["rings", "whole"] (spRO K) := ok_rowOf F_row_of B T MT F_Floor___init__ G_Floor___init__ F_Floor_tops_of G_Floor_tops_of F_check_whole g_check_whole G_check_whole
  have G_whole_of : FnOk PL w K mg base CX0 8 (He.ga K "whole_of") d_whole_of ["rings", "row"] (spWO K) := ok_wof F_whole_of B Ba F_check_row g_check_row G_check_row
  have G__law_deck : FnOk PL w K mg base CX0 1 (He.ga K "_law_deck") d__law_deck ["script"] (spDeck K) := ok_deck F__law_deck B
  have G__law_pick : FnOk PL w K mg base CX0 2 (He.ga K "_law_pick") d__law_pick ["deck", "some"] (spPick K) := ok_pick F__law_pick F__law_draw g__law_draw B
  have G__law_rings : FnOk PL w K mg base CX0 3 (He.ga K "_law_rings") d__law_rings ["deck", "most"] (spLRings K) := ok_lRings F__law_rings F__law_pick g__law_pick G__law_pick
  have G__law_places : FnOk PL w K mg base CX0 1 (He.ga K "_law_places") d__law_places ["rings"] (spLPl K) := ok_lPl F__law_places B
  have G__law_gcd : FnOk PL w K mg base CX0 1 (He.ga K "_law_gcd") d__law_gcd ["one", "other"] spGcd := ok_gcd F__law_gcd B
  have G__law_order : FnOk PL w K mg base CX0 2 (He.ga K "_law_order") d__law_order ["rings"] (spLOrder K) := ok_lOrder F__law_order F__law_gcd g__law_gcd G__law_gcd
  have G__law_ring : FnOk PL w K mg base CX0 1 (He.ga K "_law_ring") d__law_ring ["e"] (spLRing K) := ok_lRing F__law_ring B
  have G__law_draw : FnOk PL w K mg base CX0 1 (He.ga K "_law_draw") d__law_draw ["deck", "many"] spDraw := ok_draw F__law_draw B
  have G__law_made : FnOk PL w K mg base CX0 2 (He.ga K "_law_made") d__law_made ["ring", "sums", "bottom"] (spLMade K) := ok_lMade F__law_made B F__law_gcd g__law_gcd G__law_gcd
  have G__law_number : FnOk PL w K mg base CX0 3 (He.ga K "_law_number") d__law_number ["deck", "ring", "size"] (spLNumber K) := ok_lNumber F__law_number B F__law_draw g__law_draw G__law_draw F__law_made g__law_made G__law_made
  have G__law_row : FnOk PL w K mg base CX0 4 (He.ga K "_law_row") d__law_row ["deck", "ring", "n"] (spLRow K) := ok_lRow F__law_row B F__law_draw g__law_draw G__law_draw F__law_made g__law_made G__law_made F__law_number g__law_number G__law_number
  have G__law_voices : FnOk PL w K mg base CX0 3 (He.ga K "_law_voices") d__law_voices ["rings", "ring", "row", "sign", "over"] (spLV K) := ok_lV F__law_voices B F__law_order g__law_order G__law_order F__law_places g__law_places G__law_places F__law_gcd g__law_gcd G__law_gcd F__law_made g__law_made G__law_made
  have G__law_plus : FnOk PL w K mg base CX0 3 (He.ga K "_law_plus") d__law_plus ["ring", "one", "other", "k"] (spLPlus K) := ok_lPlus F__law_plus B F__law_made g__law_made G__law_made
  have G__law_times : FnOk PL w K mg base CX0 3 (He.ga K "_law_times") d__law_times ["ring", "one", "other"] (spLTimes K) := ok_lTimes F__law_times B F__law_made g__law_made G__law_made
  have G__law_is_zero : FnOk PL w K mg base CX0 1 (He.ga K "_law_is_zero") d__law_is_zero ["number"] (spLZ K) := ok_lZ F__law_is_zero
  have G__law_whole_of : FnOk PL w K mg base CX0 1 (He.ga K "_law_whole_of") d__law_whole_of ["row"] (spLX K) := ok_lX F__law_whole_of B
  have Z : Fs PL w K mg base := {
    f_voices := ⟨(He.ga K "voices"), d_voices, F_voices, g_voices, G_voices, F_voices.bindsN fun _ _ _ _ _ _ us hl => match us, hl with | [_, _], _ => rfl⟩
    f_row_back := ⟨(He.ga K "row_back"), d_row_back, F_row_back, g_row_back, G_row_back, F_row_back.bindsN fun _ _ _ _ _ _ us hl => match us, hl with | [_, _], _ => rfl⟩
    f_voice := ⟨(He.ga K "voice"), d_voice, F_voice, g_voice, G_voice, F_voice.bindsN fun _ _ _ _ _ _ us hl => match us, hl with | [_, _, _], _ => rfl⟩
    f_plus := ⟨(He.ga K "plus"), d_plus, F_plus, g_plus, G_plus, F_plus.bindsN fun _ _ _ _ _ _ us hl => match us, hl with | [_, _, _], _ => rfl⟩
    f_times := ⟨(He.ga K "times"), d_times, F_times, g_times, G_times, F_times.bindsN fun _ _ _ _ _ _ us hl => match us, hl with | [_, _, _], _ => rfl⟩
    f_filled := ⟨(He.ga K "filled"), d_filled, F_filled, g_filled, G_filled, F_filled.bindsN fun _ _ _ _ _ _ us hl => match us, hl with | [_, _], _ => rfl⟩
    f_sounding := ⟨(He.ga K "sounding"), d_sounding, F_sounding, g_sounding, G_sounding, F_sounding.bindsN fun _ _ _ _ _ _ us hl => match us, hl with | [_, _], _ => rfl⟩
    f_row_of := ⟨(He.ga K "row_of"), d_row_of, F_row_of, g_row_of, G_row_of, F_row_of.bindsN fun _ _ _ _ _ _ us hl => match us, hl with | [_, _], _ => rfl⟩
    f_whole_of := ⟨(He.ga K "whole_of"), d_whole_of, F_whole_of, g_whole_of, G_whole_of, F_whole_of.bindsN fun _ _ _ _ _ _ us hl => match us, hl with | [_, _], _ => rfl⟩
    f_l_deck := ⟨(He.ga K "_law_deck"), d__law_deck, F__law_deck, g__law_deck, G__law_deck, F__law_deck.bindsN fun _ _ _ _ _ _ us hl => match us, hl with | [_], _ => rfl⟩
    f_l_rings := ⟨(He.ga K "_law_rings"), d__law_rings, F__law_rings, g__law_rings, G__law_rings, F__law_rings.bindsN fun _ _ _ _ _ _ us hl => match us, hl with | [_, _], _ => rfl⟩
    f_l_pick := ⟨(He.ga K "_law_pick"), d__law_pick, F__law_pick, g__law_pick, G__law_pick, F__law_pick.bindsN fun _ _ _ _ _ _ us hl => match us, hl with | [_, _], _ => rfl⟩
    f_l_places := ⟨(He.ga K "_law_places"), d__law_places, F__law_places, g__law_places, G__law_places, F__law_places.bindsN fun _ _ _ _ _ _ us hl => match us, hl with | [_], _ => rfl⟩
    f_l_order := ⟨(He.ga K "_law_order"), d__law_order, F__law_order, g__law_order, G__law_order, F__law_order.bindsN fun _ _ _ _ _ _ us hl => match us, hl with | [_], _ => rfl⟩
    f_l_ring := ⟨(He.ga K "_law_ring"), d__law_ring, F__law_ring, g__law_ring, G__law_ring, F__law_ring.bindsN fun _ _ _ _ _ _ us hl => match us, hl with | [_], _ => rfl⟩
    f_l_row := ⟨(He.ga K "_law_row"), d__law_row, F__law_row, g__law_row, G__law_row, F__law_row.bindsN fun _ _ _ _ _ _ us hl => match us, hl with | [_, _, _], _ => rfl⟩
    f_l_draw := ⟨(He.ga K "_law_draw"), d__law_draw, F__law_draw, g__law_draw, G__law_draw, F__law_draw.bindsN fun _ _ _ _ _ _ us hl => match us, hl with | [_, _], _ => rfl⟩
    f_l_made := ⟨(He.ga K "_law_made"), d__law_made, F__law_made, g__law_made, G__law_made, F__law_made.bindsN fun _ _ _ _ _ _ us hl => match us, hl with | [_, _, _], _ => rfl⟩
    f_l_voices := ⟨(He.ga K "_law_voices"), d__law_voices, F__law_voices, g__law_voices, G__law_voices, F__law_voices.bindsN fun _ _ _ _ _ _ us hl => match us, hl with | [_, _, _, _, _], _ => rfl⟩
    f_l_number := ⟨(He.ga K "_law_number"), d__law_number, F__law_number, g__law_number, G__law_number, F__law_number.bindsN fun _ _ _ _ _ _ us hl => match us, hl with | [_, _, _], _ => rfl⟩
    f_l_plus := ⟨(He.ga K "_law_plus"), d__law_plus, F__law_plus, g__law_plus, G__law_plus, F__law_plus.bindsN fun _ _ _ _ _ _ us hl => match us, hl with | [_, _, _, _], _ => rfl⟩
    f_l_times := ⟨(He.ga K "_law_times"), d__law_times, F__law_times, g__law_times, G__law_times, F__law_times.bindsN fun _ _ _ _ _ _ us hl => match us, hl with | [_, _, _], _ => rfl⟩
    f_l_is_zero := ⟨(He.ga K "_law_is_zero"), d__law_is_zero, F__law_is_zero, g__law_is_zero, G__law_is_zero, F__law_is_zero.bindsN fun _ _ _ _ _ _ us hl => match us, hl with | [_], _ => rfl⟩
    f_l_whole_of := ⟨(He.ga K "_law_whole_of"), d__law_whole_of, F__law_whole_of, g__law_whole_of, G__law_whole_of, F__law_whole_of.bindsN fun _ _ _ _ _ _ us hl => match us, hl with | [_], _ => rfl⟩ }
  exact ok_law F_law B Z (A := callerA) rfl ⟨rfl, by decide, by decide⟩ [] s H args us vs Q E e0 hb r hsp
end
end K08
open PySem PySem.W PySem.Calls PyProof.Rows
theorem PySem.Challenge.cw_ringvoices_k08_whole_voices_and_rows_bac_holds : PySem.Challenge.rw_ringvoices_k08_whole_voices_and_rows_bac.Holds := by
  refine K08.hd0 ?_
  refine K08.walk_ofA (l := K08.LW) (n := 63) (x := "script") (CX := L2.CX0) rfl (by decide) rfl ?F (fun _ _ _ _ z => z)
  intro w mg fa h Y G hmg0
  have KX := kIn_of Y
  have hmg : mg ("law" : PySem.Str) = some (.ref fa) := hmg0
  obtain ⟨fd, hb, hF⟩ := K08.facts (w := w) KX G hmg (by unfold He.SaysD; kernel_rfl) (by kernel_rfl)
  exact ⟨_, fd, K08.spLaw _, KX, hb, fun H a ns hl _ hS => ⟨a, ns, rfl, hS, hl, fun _ => rfl⟩, hF⟩
