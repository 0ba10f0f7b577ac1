import PyProof.Rows.All
import Wide.All
import OpenK.AllK
import Wide.FinOn
import HandS.ForMost
import HandS.Gcd
import HandS.Wide
import HandS.TupAny
import HandS.Deep
import HandS.IsInst
import HandS.Style
import HandS.Flow
import HandS.Evl
import PyProof.ReprRoads
import HandS.Iter
import KE.GoesEnum
import KE.GoesMore
import KE.SortKeyHeap
import HandS.NestedK
import HandS.SortKw
import HandS.Keys
import HandS.RaiseMore
import HandS.HeadWalk
import HandS.List
import KE.KMinKey
import HandS.More
import HandS.TupMul
import PyProof.WalksMore
import PyProof.SumWalkG
import KE.KDictZip
import KE.KDictCopyH
import KE.KDictPairs
import HandS.Dict
import HandS.Star
import KE.DataFind
import HandS.Text
import PyProof.Rows.ReprOcc
import HandS.FStr
import KE.KExcSuper
import HandS.ForExc
import HandS.ExcInit
import HandS.ExcField
import HandS.ExcOwn
import HandS.EndTab
import HandS.HeadHook4
import HandS.Head3
import HandS.DictComp
import HandS.Defaults
import HandS.MakeKwOnly
import PyProof.ReprBulk
import PyProof.Rows.RegStrFacts
import HandS.Zip
import PySem.Challenge.RW_gapwise_k23_moves_between_alike_values
set_option Elab.async false
set_option linter.all false
set_option maxRecDepth 100000
namespace G
open PySem L2

/-! ### data in the heap, its tuples known to stand there -/
mutual
inductive Dp (K : PySem.W.Frag) (H : Hp) : V → PyData → Prop
  | non : Dp K H .non PyData.none
  | bl (b : Bool) : Dp K H (V.bl b) (PyData.bool b)
  | int (i : Int) : Dp K H (V.int i) (PyData.int i)
  | str (x : Str) : Dp K H (V.str x) (PyData.str x)
  | lst {a : Addr} {xs : List V} {ds : List PyData} (h : SqL K H a xs) (t : DpAll K H xs ds) : Dp K H (V.ref a) (PyData.list ds)
  | tup {a : Addr} {xs : List V} {ds : List PyData} (h : H a = some (.tup xs)) (t : DpAll K H xs ds) : Dp K H (V.ref a) (PyData.tuple ds)
inductive DpAll (K : PySem.W.Frag) (H : Hp) : List V → List PyData → Prop
  | nil : DpAll K H [] []
  | cons {v : V} {vs : List V} {d : PyData} {ds : List PyData} (h : Dp K H v d) (t : DpAll K H vs ds) : DpAll K H (v :: vs) (d :: ds)
end
mutual
theorem Dp.up {K : PySem.W.Frag} {H : Hp} : ∀ {v : V} {d : PyData}, Dp K H v d → L2.Dp K H v d
  | _, _, .non => .non
  | _, _, .bl b => .bl b
  | _, _, .int i => .int i
  | _, _, .str x => .str x
  | _, _, .lst h t => .lst h t.up
  | _, _, .tup h t => .tup (Or.inl (Or.inl h)) t.up
theorem DpAll.up {K : PySem.W.Frag} {H : Hp} : ∀ {vs : List V} {ds : List PyData}, DpAll K H vs ds → L2.DpAll K H vs ds
  | _, _, .nil => .nil
  | _, _, .cons h t => .cons h.up t.up
end
/-! ### data: trees without lists and dicts, without bools -/
mutual
def tupD : PyData → Bool
  | .none => true
  | .bool _ => true
  | .int _ => true
  | .str _ => true
  | .list _ => false
  | .tuple xs => tupDs xs
  | .dict _ => false
def tupDs : List PyData → Bool
  | [] => true
  | x :: xs => tupD x && tupDs xs
end
def immut : HO → Bool
  | .tup _ => true
  | .frz _ (.tup _) => true
  | _ => false
/-- tuples stay -/
def Tk (H H' : Hp) : Prop := ∀ b o, H b = some o → immut o = true → H' b = some o
/-- all stays but what is at M -/
def Kp (M : Addr → Prop) (H H' : Hp) : Prop := ∀ b o, H b = some o → ¬ M b → H' b = some o
def M0 : Addr → Prop := fun _ => False
theorem Kp.refl {M : Addr → Prop} (H : Hp) : Kp M H H := fun _ _ h _ => h
theorem Kp.trans {M : Addr → Prop} {H H1 H2 : Hp} (a : Kp M H H1) (b : Kp M H1 H2) : Kp M H H2 := fun c o h n => b c o (a c o h n) n
theorem Kp.new {M : Addr → Prop} {H : Hp} {p : Addr} {o : HO} (h : H p = none) : Kp M H (upd H p o) := fun a u e _ => by
  rw [upd_ne (ne_of_none e h)]; exact e
theorem Kp.at {M : Addr → Prop} {H H1 : Hp} {p : Addr} {o : HO} (h : Kp M H H1) (n : H p = none) : Kp M H (upd H1 p o) := fun a u e m => by
  rw [upd_ne (ne_of_none e n)]; exact h a u e m
theorem Kp.of0 {M : Addr → Prop} {H H' : Hp} (h : Kp M0 H H') : Kp M H H' := fun b o e _ => h b o e (fun z => z)
theorem Kp.same {H H' : Hp} (h : Kp M0 H H') : Same H H' := fun b o e => h b o e (fun z => z)
theorem Kp.mono {M N : Addr → Prop} {H H' : Hp} (h : Kp M H H') (hs : ∀ b, M b → N b) : Kp N H H' := fun b o e n => h b o e (fun m => n (hs b m))
theorem Tk.refl (H : Hp) : Tk H H := fun _ _ h _ => h
theorem Tk.trans {H H1 H2 : Hp} (a : Tk H H1) (b : Tk H1 H2) : Tk H H2 := fun c o h i => b c o (a c o h i) i
theorem Tk.of0 {H H' : Hp} (h : Kp M0 H H') : Tk H H' := fun b o e _ => h b o e (fun z => z)
theorem Tk.new {H : Hp} {p : Addr} {o : HO} (h : H p = none) : Tk H (upd H p o) := Tk.of0 (Kp.new h)
theorem Tk.at {H : Hp} {p : Addr} {o u : HO} (h : H p = some u) (hi : immut u = false) : Tk H (upd H p o) := fun b v e i => by
  by_cases hb : b = p
  · subst hb; rw [e] at h; cases h; rw [hi] at i; cases i
  · rw [upd_ne hb]; exact e
theorem Tk.lst {H : Hp} {p : Addr} {xs : List V} {o : HO} (h : H p = some (.lst xs)) : Tk H (upd H p o) := Tk.at h rfl
theorem Kp.tk {M : Addr → Prop} {H H' : Hp} (h : Kp M H H') (hm : ∀ b o, M b → H b = some o → immut o = false) : Tk H H' := fun b o e i =>
  h b o e fun m => by rw [hm b o m e] at i; cases i

theorem sqT_tk {K : PySem.W.Frag} {H H' : Hp} {a : Addr} {xs : List V} (t : Tk H H') (h : SqT K H a xs) : SqT K H' a xs := by
  rcases h with (h | ⟨o, h⟩) | h
  · exact .inl (.inl (t _ _ h rfl))
  · exact .inl (.inr ⟨o, t _ _ h rfl⟩)
  · exact .inr h
mutual
theorem dp_tk {K : PySem.W.Frag} {H H' : Hp} (t : Tk H H') : ∀ (d : PyData) (v : V), tupD d = true → Dp K H v d → Dp K H' v d
  | .none, _, _, h => by cases h; exact .non
  | .bool b, _, _, h => by cases h; exact .bl b
  | .int i, _, _, h => by cases h; exact .int i
  | .str x, _, _, h => by cases h; exact .str x
  | .list _, _, hd, _ => by simp [tupD] at hd
  | .tuple xs, _, hd, h => by
    cases h with
    | tup hs ha => exact .tup (t _ _ hs rfl) (dps_tk t xs _ (by simpa [tupD] using hd) ha)
  | .dict _, _, hd, _ => by simp [tupD] at hd
theorem dps_tk {K : PySem.W.Frag} {H H' : Hp} (t : Tk H H') : ∀ (ds : List PyData) (vs : List V), tupDs ds = true → DpAll K H vs ds → DpAll K H' vs ds
  | [], _, _, h => by cases h; exact .nil
  | d :: ds, _, hd, h => by
    have q : tupD d = true ∧ tupDs ds = true := by simpa [tupDs] using hd
    cases h with
    | cons h1 h2 => exact .cons (dp_tk t d _ q.1 h1) (dps_tk t ds _ q.2 h2)
end
theorem tupDs_all : ∀ {ds : List PyData}, tupDs ds = true ↔ ∀ d ∈ ds, tupD d = true
  | [] => by simp [tupDs]
  | d :: ds => by simp [tupDs, tupDs_all (ds := ds)]
theorem dps_len {K : PySem.W.Frag} {H : Hp} : ∀ {vs : List V} {ds : List PyData}, DpAll K H vs ds → vs.length = ds.length
  | _, _, .nil => rfl
  | _, _, .cons _ t => by simp [dps_len t]
theorem dps_get {K : PySem.W.Frag} {H : Hp} : ∀ {vs : List V} {ds : List PyData} {i : Nat} {v : V}, DpAll K H vs ds → vs[i]? = some v → ∃ d, ds[i]? = some d ∧ Dp K H v d
  | _, _, _, _, .nil, e => by simp at e
  | _, _, 0, v, .cons h _, e => by simp at e; subst e; exact ⟨_, rfl, h⟩
  | _, _, i + 1, v, .cons _ t, e => by
    obtain ⟨d, h1, h2⟩ := dps_get (i := i) t (by simpa using e)
    exact ⟨d, by simpa using h1, h2⟩
theorem dps_get' {K : PySem.W.Frag} {H : Hp} : ∀ {vs : List V} {ds : List PyData} {i : Nat} {d : PyData}, DpAll K H vs ds → ds[i]? = some d → ∃ v, vs[i]? = some v ∧ Dp K H v d
  | _, _, _, _, .nil, e => by simp at e
  | _, _, 0, d, .cons h _, e => by simp at e; subst e; exact ⟨_, rfl, h⟩
  | _, _, i + 1, d, .cons _ t, e => by
    obtain ⟨v, h1, h2⟩ := dps_get' (i := i) t (by simpa using e)
    exact ⟨v, by simpa using h1, h2⟩
theorem dps_app {K : PySem.W.Frag} {H : Hp} : ∀ {vs ws : List V} {ds es : List PyData}, DpAll K H vs ds → DpAll K H ws es → DpAll K H (vs ++ ws) (ds ++ es)
  | _, _, _, _, .nil, h => h
  | _, _, _, _, .cons h t, h' => .cons h (dps_app t h')
theorem dps_one {K : PySem.W.Frag} {H : Hp} {v : V} {d : PyData} (h : Dp K H v d) : DpAll K H [v] [d] := .cons h .nil
theorem dps_take {K : PySem.W.Frag} {H : Hp} : ∀ {vs : List V} {ds : List PyData} (n : Nat), DpAll K H vs ds → DpAll K H (vs.take n) (ds.take n)
  | _, _, 0, _ => by simp; exact .nil
  | _, _, n + 1, .nil => by simp; exact .nil
  | _, _, n + 1, .cons h t => by simp; exact .cons h (dps_take n t)
theorem dps_drop {K : PySem.W.Frag} {H : Hp} : ∀ {vs : List V} {ds : List PyData} (n : Nat), DpAll K H vs ds → DpAll K H (vs.drop n) (ds.drop n)
  | _, _, 0, h => by simpa using h
  | _, _, n + 1, .nil => by simp; exact .nil
  | _, _, n + 1, .cons h t => by simpa using dps_drop n t
theorem dps_ints {K : PySem.W.Frag} {H : Hp} : ∀ (l : List Int), DpAll K H (l.map V.int) (l.map PyData.int)
  | [] => .nil
  | i :: l => .cons (.int i) (dps_ints l)

/-! ### points -/
abbrev Pt := Int × Int
def ptD (x : Pt) : PyData := .tuple [.int x.1, .int x.2]
theorem ptD_tup (x : Pt) : tupD (ptD x) = true := rfl
theorem ptDs_tup (l : List Pt) : tupDs (l.map ptD) = true := tupDs_all.mpr fun d h => by
  obtain ⟨x, _, rfl⟩ := List.mem_map.mp h; rfl
theorem ptD_shaped (x : Pt) : SeqAt.shaped (ptD x) = true := by
  simp [SeqAt.shaped, ptD, PyData.canLay0, PyData.canLayAll0, PyData.depth, PyData.depthAll]
theorem ptD_eqv (x y : Pt) : PyData.eqv (ptD x) (ptD y) = decide (x = y) := by
  obtain ⟨a, b⟩ := x
  obtain ⟨c, d⟩ := y
  simp only [ptD, PyData.eqv, PyData.eqvAll, Bool.and_true]
  rw [Bool.eq_iff_iff]
  simp
theorem pt_mk {K : PySem.W.Frag} {H : Hp} {a : Addr} {p q : Int} (h : H a = some (.tup [.int p, .int q])) : Dp K H (.ref a) (ptD (p, q)) := .tup h (.cons (.int p) (.cons (.int q) .nil))
theorem pt_tup {K : PySem.W.Frag} {H : Hp} {v : V} {x : Pt} (h : Dp K H v (ptD x)) : ∃ a, v = .ref a ∧ H a = some (.tup [.int x.1, .int x.2]) := by
  cases h with
  | tup hs ha =>
    cases ha with
    | cons h1 t =>
      cases h1
      cases t with
      | cons h2 t =>
        cases h2
        cases t
        exact ⟨_, rfl, hs⟩
theorem pt_of {K : PySem.W.Frag} {H : Hp} {v : V} {x : Pt} (h : Dp K H v (ptD x)) : ∃ a, v = .ref a ∧ SqT K H a [.int x.1, .int x.2] := by
  obtain ⟨a, e, q⟩ := pt_tup h
  exact ⟨a, e, Or.inl (Or.inl q)⟩

/-! ### rules -/
section
variable {X : Cx}
def rMulK : R2 := rI IntMulOk fun i j => .int (i * j)
theorem op_mulK : OpR X (binaryOp .Mult) rMulK := opI fun _ _ _ _ _ _ _ hc q => PyProof.Rows.mul_int q hc
theorem mulOk_r {i j : Int} (h1 : -(2 ^ 64) < j) (h2 : j < 2 ^ 64) : IntMulOk i j := .of_right (intBits_le_64 h1 h2)
theorem mulOk_l {i j : Int} (h1 : -(2 ^ 64) < i) (h2 : i < 2 ^ 64) : IntMulOk i j := .of_left (intBits_le_64 h1 h2)
theorem mulOk_w {i j : Int} {a b : Nat} (ha : i.natAbs < 2 ^ a) (hb : j.natAbs < 2 ^ b) (h0 : 0 < a) (h1 : 0 < b) (h : a + b ≤ 1000000) : IntMulOk i j := (wide_mul ha hb h0 h1 h).ok
end
end G
set_option Elab.async false
set_option linter.all false
set_option maxRecDepth 100000
namespace G
open PySem L2

theorem wipe1 (σ : L2.St) (s : Nat) (x : Option V) : wipe ((wipe σ [s]).set s x) [s] = wipe σ [s] := by
  show ((σ.set s none).set s x).set s none = σ.set s none
  rw [List.set_set, List.set_set]

section
variable {K : PySem.W.Frag} {s : Nat} {te : TE} {tt : TT} {σ : L2.St} {H1 : Hp} {D : Addr} {Q : VK}

/-- a list of n elements, made over a range, each by a step that may change what is at M and keeps I -/
theorem lcm_range {lo : Int} {n : Nat} (M : Addr → Prop) (I : Hp → Prop) (P : Nat → PyData → Prop) (hD : H1 D = none) (hI : I (upd H1 D (.lst []))) (hMD : ¬ M D) (hn : n < sizeLine)
    (hst : ∀ H vs, I H → I (upd H D (.lst vs))) (ht : ∀ i d, P i d → tupD d = true) (hm : ∀ H b o, I H → M b → H b = some o → immut o = false)
    (hs : ∀ i H, i < n → Kp M H1 H → I H → ∀ Q' : VK, (∀ y H4 d, Kp M H H4 → I H4 → P i d → Dp K H4 y d → Q' y H4) → te ((wipe σ [s]).set s (some (.int (lo + i)))) H Q')
    (hq : ∀ H vs ds, Kp M H1 H → I H → H D = some (.lst vs) → DpAll K H vs ds → ds.length = n → (∀ i d, ds[i]? = some d → P i d) → Q (.ref D) H) :
    ∃ W : Nat → Nat → Hp → Prop, (∃ m, W 0 m (upd H1 D (.lst []))) ∧ ∀ i m H, W i m H →
      ((Itr lo n).stop i H ∧ Q (.ref D) H) ∨ ((Itr lo n).go i H ∧ ∃ Nx : Hp → Prop, (∀ H', Nx H' → ∃ m', m' < m ∧ W (i + 1) m' H') ∧ ∀ x H', (Itr lo n).yld i H x H' → gName s x (wipe σ [s]) H' fun σ2 H2 => wipe σ2 [s] = wipe σ [s] ∧ tYes σ2 H2 fun b H3 =>
        if b = true then te σ2 H3 fun y H4 => ∃ acc, H4 D = some (.lst acc) ∧ acc.length < sizeLine ∧ Nx (upd H4 D (.lst (acc ++ [y]))) else Nx H3) := by
  refine lc_range (Qd := fun H => Q (.ref D) H) (fun i H => ∃ vs ds, Kp M H1 H ∧ I H ∧ H D = some (.lst vs) ∧ DpAll K H vs ds ∧ ds.length = i ∧ ∀ j d, ds[j]? = some d → P j d)
    ⟨[], [], (Kp.refl H1).at hD, hI, upd_same, .nil, rfl, fun j d e => by simp at e⟩ (fun i H hi hp => ?_) (fun H hp => ?_)
  · obtain ⟨vs, ds, k, hi', hd, ha, hl, hP⟩ := hp
    refine ⟨wipe1 σ s _, ?_⟩
    show te _ H _
    refine hs i H hi k hi' _ fun y H4 d k4 i4 p4 d4 => ?_
    have hd4 : H4 D = some (.lst vs) := k4 D _ hd hMD
    have tk : Tk H H4 := k4.tk fun b o m e => hm H b o hi' m e
    have hdu : tupDs ds = true := tupDs_all.mpr fun z hz => by
      obtain ⟨j, hj⟩ := List.getElem?_of_mem hz
      exact ht j z (hP j z hj)
    refine ⟨vs, hd4, ?_, vs ++ [y], ds ++ [d], (k.trans k4).at hD, hst _ _ i4, upd_same, ?_, by simp [hl], fun j z hz => ?_⟩
    · rw [dps_len ha, hl]; omega
    · exact dps_app (dps_tk (tk.trans (Tk.lst hd4)) _ _ hdu ha) (dps_one (dp_tk (Tk.lst hd4) d y (ht _ _ p4) d4))
    · by_cases hj : j < ds.length
      · rw [List.getElem?_append_left hj] at hz; exact hP j z hz
      · rw [List.getElem?_append_right (by omega)] at hz
        have e0 : j - ds.length = 0 := by
          cases h0 : j - ds.length with
          | zero => rfl
          | succ k => rw [h0] at hz; simp at hz
        rw [e0] at hz
        simp at hz
        subst hz
        have : j = i := by omega
        rw [this]; exact p4
  · obtain ⟨vs, ds, k, hi', hd, ha, hl, hP⟩ := hp
    exact hq H vs ds k hi' hd ha hl hP

/-- .. by a step that changes nothing, each element known -/
theorem lcp_range {lo : Int} {n : Nat} (dd : Nat → PyData) (hD : H1 D = none) (hn : n < sizeLine) (ht : ∀ i, i < n → tupD (dd i) = true)
    (hs : ∀ i H, i < n → Kp M0 H1 H → ∀ Q' : VK, (∀ y H4, Kp M0 H H4 → Dp K H4 y (dd i) → Q' y H4) → te ((wipe σ [s]).set s (some (.int (lo + i)))) H Q')
    (hq : ∀ H vs, Kp M0 H1 H → H D = some (.lst vs) → DpAll K H vs ((List.range n).map dd) → Q (.ref D) H) :
    ∃ W : Nat → Nat → Hp → Prop, (∃ m, W 0 m (upd H1 D (.lst []))) ∧ ∀ i m H, W i m H →
      ((Itr lo n).stop i H ∧ Q (.ref D) H) ∨ ((Itr lo n).go i H ∧ ∃ Nx : Hp → Prop, (∀ H', Nx H' → ∃ m', m' < m ∧ W (i + 1) m' H') ∧ ∀ x H', (Itr lo n).yld i H x H' → gName s x (wipe σ [s]) H' fun σ2 H2 => wipe σ2 [s] = wipe σ [s] ∧ tYes σ2 H2 fun b H3 =>
        if b = true then te σ2 H3 fun y H4 => ∃ acc, H4 D = some (.lst acc) ∧ acc.length < sizeLine ∧ Nx (upd H4 D (.lst (acc ++ [y]))) else Nx H3) := by
  refine lcm_range (K := K) M0 (fun _ => True) (fun i d => i < n ∧ d = dd i) hD trivial (fun z => z) hn (fun _ _ _ => trivial) (fun i d h => by rw [h.2]; exact ht i h.1) (fun _ _ _ _ m _ => m.elim)
    (fun i H hi k _ Q' q => hs i H hi k Q' fun y H4 k4 d4 => q y H4 _ k4 trivial ⟨hi, rfl⟩ d4) (fun H vs ds k _ hd ha hl hP => ?_)
  refine hq H vs k hd ?_
  have e : ds = (List.range n).map dd := by
    apply List.ext_getElem?
    intro j
    by_cases hj : j < n
    · have h1 : ds[j]? = some ds[j] := List.getElem?_eq_getElem (by omega)
      rw [h1, (hP j _ h1).2]
      simp [hj]
    · rw [List.getElem?_eq_none (by omega), List.getElem?_eq_none (by simp; omega)]
  rw [← e]; exact ha

theorem filter_snoc {α : Type} (p : α → Bool) (l : List α) (x : α) : (l ++ [x]).filter p = l.filter p ++ (if p x = true then [x] else []) := by
  rw [List.filter_append]
  congr 1
  by_cases h : p x = true
  · simp [h]
  · simp [h]
theorem take_snoc {α : Type} {l : List α} {i : Nat} {x : α} (h : l[i]? = some x) : l.take (i + 1) = l.take i ++ [x] := by
  rw [List.take_add_one, h]; rfl

/-- the body of a turn over a list or a tuple of trees -/
theorem turn_ok {ds : List PyData} {b : PyData → Bool} {f : PyData → PyData} {i : Nat} {x : V} {d : PyData} {H : Hp} {Nx : Hp → Prop} (hD : H1 D = none) (hn : ds.length < sizeLine) (ht : ∀ d ∈ ds, b d = true → tupD (f d) = true)
    (hi : ds[i]? = some d) (hx : Dp K H x d) (hp : ∃ vs, Kp M0 H1 H ∧ H D = some (.lst vs) ∧ DpAll K H vs (((ds.take i).filter b).map f))
    (htt : ∀ Q' : Bool → Hp → Prop, (∀ H3, Kp M0 H H3 → Q' (b d) H3) → tt ((wipe σ [s]).set s (some x)) H Q')
    (hte : b d = true → ∀ H3, Kp M0 H H3 → ∀ Q' : VK, (∀ y H4, Kp M0 H3 H4 → Dp K H4 y (f d) → Q' y H4) → te ((wipe σ [s]).set s (some x)) H3 Q')
    (hN : ∀ H', (∃ vs, Kp M0 H1 H' ∧ H' D = some (.lst vs) ∧ DpAll K H' vs (((ds.take (i + 1)).filter b).map f)) → Nx H') :
    gName s x (wipe σ [s]) H fun σ2 H2 => wipe σ2 [s] = wipe σ [s] ∧ tt σ2 H2 fun c H3 =>
        if c = true then te σ2 H3 fun y H4 => ∃ acc, H4 D = some (.lst acc) ∧ acc.length < sizeLine ∧ Nx (upd H4 D (.lst (acc ++ [y]))) else Nx H3 := by
  obtain ⟨vs, k, hd, ha⟩ := hp
  refine ⟨wipe1 σ s _, ?_⟩
  refine htt _ fun H3 k3 => ?_
  have hm : d ∈ ds := List.mem_of_getElem? hi
  have hdu : tupDs (((ds.take i).filter b).map f) = true := tupDs_all.mpr fun z hz => by
    obtain ⟨y, hy, rfl⟩ := List.mem_map.mp hz
    obtain ⟨h1, h2⟩ := List.mem_filter.mp hy
    exact ht y (List.mem_of_mem_take h1) h2
  have hd3 : H3 D = some (.lst vs) := k3 D _ hd (fun z => z)
  have hlen : vs.length ≤ ds.length := by
    rw [dps_len ha, List.length_map]
    exact Nat.le_trans (List.length_filter_le _ _) (by simp; omega)
  refine ite2 (fun hb => ?_) (fun hb => ?_)
  · refine hte hb H3 k3 _ fun y H4 k4 d4 => ?_
    have hd4 : H4 D = some (.lst vs) := k4 D _ hd3 (fun z => z)
    refine ⟨vs, hd4, by omega, hN _ ⟨vs ++ [y], ((k.trans k3).trans k4).at hD, upd_same, ?_⟩⟩
    rw [take_snoc hi, filter_snoc, if_pos hb, List.map_append]
    exact dps_app (dps_tk ((Tk.of0 (k3.trans k4)).trans (Tk.lst hd4)) _ _ hdu ha) (dps_one (dp_tk (Tk.lst hd4) _ y (ht d hm hb) d4))
  · refine hN _ ⟨vs, k.trans k3, hd3, ?_⟩
    rw [take_snoc hi, filter_snoc, if_neg hb, List.append_nil]
    exact dps_tk (Tk.of0 k3) _ _ hdu ha

theorem lcp_list {a : Addr} {xs : List V} (ds : List PyData) (b : PyData → Bool) (f : PyData → PyData) (hD : H1 D = none) (hn : ds.length < sizeLine) (hx : SqL K H1 a xs) (hxs : DpAll K H1 xs ds) (hdu : tupDs ds = true)
    (ht : ∀ d ∈ ds, b d = true → tupD (f d) = true)
    (htt : ∀ (i : Nat) (d : PyData) (x : V) (H : Hp), ds[i]? = some d → Dp K H x d → Kp M0 H1 H → ∀ Q' : Bool → Hp → Prop, (∀ H3, Kp M0 H H3 → Q' (b d) H3) → tt ((wipe σ [s]).set s (some x)) H Q')
    (hte : ∀ (i : Nat) (d : PyData) (x : V) (H : Hp), ds[i]? = some d → b d = true → Dp K H x d → Kp M0 H1 H → ∀ Q' : VK, (∀ y H4, Kp M0 H H4 → Dp K H4 y (f d) → Q' y H4) → te ((wipe σ [s]).set s (some x)) H Q')
    (hq : ∀ H vs, Kp M0 H1 H → H D = some (.lst vs) → DpAll K H vs ((ds.filter b).map f) → Q (.ref D) H) :
    ∃ W : Nat → Nat → Hp → Prop, (∃ m, W 0 m (upd H1 D (.lst []))) ∧ ∀ i m H, W i m H →
      ((Itl K a).stop i H ∧ Q (.ref D) H) ∨ ((Itl K a).go i H ∧ ∃ Nx : Hp → Prop, (∀ H', Nx H' → ∃ m', m' < m ∧ W (i + 1) m' H') ∧ ∀ x H', (Itl K a).yld i H x H' → gName s x (wipe σ [s]) H' fun σ2 H2 => wipe σ2 [s] = wipe σ [s] ∧ tt σ2 H2 fun b H3 =>
        if b = true then te σ2 H3 fun y H4 => ∃ acc, H4 D = some (.lst acc) ∧ acc.length < sizeLine ∧ Nx (upd H4 D (.lst (acc ++ [y]))) else Nx H3) := by
  have hl := dps_len hxs
  refine lc_list (xs := xs) (Qd := fun H => Q (.ref D) H) (fun i H => ∃ vs, Kp M0 H1 H ∧ H D = some (.lst vs) ∧ DpAll K H vs (((ds.take i).filter b).map f))
    ⟨[], (Kp.refl H1).at hD, upd_same, by simp; exact .nil⟩ (fun i H _ ⟨_, k, _, _⟩ => k.same.seq hx) (fun i x H hi hp => ?_) (fun H hp => ?_)
  · obtain ⟨vs, k, hd, ha⟩ := id hp
    obtain ⟨d, e1, e2⟩ := dps_get (dps_tk (Tk.of0 k) _ _ hdu hxs) hi
    exact turn_ok hD hn ht e1 e2 hp (htt i d x H e1 e2 k) (fun hb H3 k3 Q' q => hte i d x H3 e1 hb (dp_tk (Tk.of0 k3) d x (tupDs_all.mp hdu d (List.mem_of_getElem? e1)) e2) (k.trans k3) Q' q) fun H' z => z
  · obtain ⟨vs, k, hd, ha⟩ := hp
    rw [hl, List.take_length] at ha
    exact hq H vs k hd ha

theorem lcp_tup {a : Addr} {xs : List V} (ds : List PyData) (b : PyData → Bool) (f : PyData → PyData) (hD : H1 D = none) (hn : ds.length < sizeLine) (hx : SqT K H1 a xs) (hxs : DpAll K H1 xs ds) (hdu : tupDs ds = true)
    (ht : ∀ d ∈ ds, b d = true → tupD (f d) = true)
    (htt : ∀ (i : Nat) (d : PyData) (x : V) (H : Hp), ds[i]? = some d → Dp K H x d → Kp M0 H1 H → ∀ Q' : Bool → Hp → Prop, (∀ H3, Kp M0 H H3 → Q' (b d) H3) → tt ((wipe σ [s]).set s (some x)) H Q')
    (hte : ∀ (i : Nat) (d : PyData) (x : V) (H : Hp), ds[i]? = some d → b d = true → Dp K H x d → Kp M0 H1 H → ∀ Q' : VK, (∀ y H4, Kp M0 H H4 → Dp K H4 y (f d) → Q' y H4) → te ((wipe σ [s]).set s (some x)) H Q')
    (hq : ∀ H vs, Kp M0 H1 H → H D = some (.lst vs) → DpAll K H vs ((ds.filter b).map f) → Q (.ref D) H) :
    ∃ W : Nat → Nat → Hp → Prop, (∃ m, W 0 m (upd H1 D (.lst []))) ∧ ∀ i m H, W i m H →
      ((Itt K a).stop i H ∧ Q (.ref D) H) ∨ ((Itt K a).go i H ∧ ∃ Nx : Hp → Prop, (∀ H', Nx H' → ∃ m', m' < m ∧ W (i + 1) m' H') ∧ ∀ x H', (Itt K a).yld i H x H' → gName s x (wipe σ [s]) H' fun σ2 H2 => wipe σ2 [s] = wipe σ [s] ∧ tt σ2 H2 fun b H3 =>
        if b = true then te σ2 H3 fun y H4 => ∃ acc, H4 D = some (.lst acc) ∧ acc.length < sizeLine ∧ Nx (upd H4 D (.lst (acc ++ [y]))) else Nx H3) := by
  have hl := dps_len hxs
  refine lc_tup (xs := xs) (Qd := fun H => Q (.ref D) H) (fun i H => ∃ vs, Kp M0 H1 H ∧ H D = some (.lst vs) ∧ DpAll K H vs (((ds.take i).filter b).map f))
    ⟨[], (Kp.refl H1).at hD, upd_same, by simp; exact .nil⟩ (fun i H _ ⟨_, k, _, _⟩ => sqT_tk (Tk.of0 k) hx) (fun i x H hi hp => ?_) (fun H hp => ?_)
  · obtain ⟨vs, k, hd, ha⟩ := id hp
    obtain ⟨d, e1, e2⟩ := dps_get (dps_tk (Tk.of0 k) _ _ hdu hxs) hi
    exact turn_ok hD hn ht e1 e2 hp (htt i d x H e1 e2 k) (fun hb H3 k3 Q' q => hte i d x H3 e1 hb (dp_tk (Tk.of0 k3) d x (tupDs_all.mp hdu d (List.mem_of_getElem? e1)) e2) (k.trans k3) Q' q) fun H' z => z
  · obtain ⟨vs, k, hd, ha⟩ := hp
    rw [hl, List.take_length] at ha
    exact hq H vs k hd ha
end

theorem while_at {c : TT} {tb : TS} {D : Ends} {σ : L2.St} {H : Hp} (Pv : L2.St → Hp → Prop) (μ : L2.St → Hp → Nat) (h0 : Pv σ H)
    (hs : ∀ σ H, Pv σ H → c σ H fun b H1 => if b = true then ∃ N : L2.St → Hp → Prop, (∀ σ' H', N σ' H' → Pv σ' H' ∧ μ σ' H' < μ σ H) ∧ tb { D with nx := N, ct := N, bk := D.nx } σ H1 else D.nx σ H1) : tWhile c tb D σ H := by
  refine ⟨fun m σ H => m = μ σ H ∧ Pv σ H, ⟨_, rfl, h0⟩, ?_⟩
  rintro m σ H ⟨rfl, p⟩
  have e : (fun (b : Bool) (H1 : Hp) => if b = true then ∃ N : L2.St → Hp → Prop, (∀ σ' H', N σ' H' → ∃ m', m' < μ σ H ∧ m' = μ σ' H' ∧ Pv σ' H') ∧ tb { D with nx := N, ct := N, bk := D.nx } σ H1 else D.nx σ H1) =
      (fun (b : Bool) (H1 : Hp) => if b = true then ∃ N : L2.St → Hp → Prop, (∀ σ' H', N σ' H' → Pv σ' H' ∧ μ σ' H' < μ σ H) ∧ tb { D with nx := N, ct := N, bk := D.nx } σ H1 else D.nx σ H1) := by
    funext b H1
    congr 1
    refine propext (exists_congr fun N => and_congr_left fun _ => ⟨fun h σ' H' n => ?_, fun h σ' H' n => ?_⟩)
    · obtain ⟨m', l, rfl, q⟩ := h σ' H' n
      exact ⟨q, l⟩
    · exact ⟨_, (h σ' H' n).2, rfl, (h σ' H' n).1⟩
  have q := hs σ H p
  rw [← e] at q
  exact q

/-! ### comprehensions whose source has been worked out -/
section
variable {K : PySem.W.Frag} {s : Nat} {te : TE} {tt : TT} {σ : L2.St} {H H1 : Hp} {Q : VK}
def LcIt (J : It) (s : Nat) (tt : TT) (te : TE) (σ : L2.St) (Q : VK) (H1 : Hp) : Prop := ∀ D, H1 D = none →
    ∃ W : Nat → Nat → Hp → Prop, (∃ m, W 0 m (upd H1 D (.lst []))) ∧ ∀ i m H, W i m H →
      (J.stop i H ∧ Q (.ref D) H) ∨ (J.go i H ∧ ∃ Nx : Hp → Prop, (∀ H', Nx H' → ∃ m', m' < m ∧ W (i + 1) m' H') ∧ ∀ x H', J.yld i H x H' → gName s x (wipe σ [s]) H' fun σ2 H2 => wipe σ2 [s] = wipe σ [s] ∧ tt σ2 H2 fun b H3 =>
        if b = true then te σ2 H3 fun y H4 => ∃ acc, H4 D = some (.lst acc) ∧ acc.length < sizeLine ∧ Nx (upd H4 D (.lst (acc ++ [y]))) else Nx H3)
def LcL (K : PySem.W.Frag) (s : Nat) (tt : TT) (te : TE) (σ : L2.St) (Q : VK) (x : V) (H1 : Hp) : Prop := ∃ a, x = .ref a ∧ (∃ xs, SqL K H1 a xs) ∧ LcIt (Itl K a) s tt te σ Q H1
def LcT (K : PySem.W.Frag) (s : Nat) (tt : TT) (te : TE) (σ : L2.St) (Q : VK) (x : V) (H1 : Hp) : Prop := ∃ a, x = .ref a ∧ (∃ xs, SqT K H1 a xs) ∧ LcIt (Itt K a) s tt te σ Q H1
def LcR (s : Nat) (tt : TT) (te : TE) (σ : L2.St) (Q : VK) (vs : List V) (H1 : Hp) : Prop := ∃ j, vs = [.int j] ∧ -2 ^ 62 ≤ j ∧ j < 2 ^ 62 ∧ LcIt (Itr 0 j.toNat) s tt te σ Q H1
def LcR2 (s : Nat) (tt : TT) (te : TE) (σ : L2.St) (Q : VK) (vs : List V) (H1 : Hp) : Prop := ∃ i j, vs = [.int i, .int j] ∧ (-2 ^ 62 ≤ i ∧ i < 2 ^ 62 ∧ -2 ^ 62 ≤ j ∧ j < 2 ^ 62) ∧ LcIt (Itr i (j - i).toNat) s tt te σ Q H1
theorem tlcL {tl : TE} (h : tl σ H (LcL K s tt te σ Q)) : tLc (iList K tl) (gName s) tt te [s] σ H Q := h
theorem tlcT {tl : TE} (h : tl σ H (LcT K s tt te σ Q)) : tLc (iTup K tl) (gName s) tt te [s] σ H Q := h
theorem tlcR {ta : TA} (h : ta σ H (LcR s tt te σ Q)) : tLc (iRng1 ta) (gName s) tt te [s] σ H Q := h
theorem tlcR2 {ta : TA} (h : ta σ H (LcR2 s tt te σ Q)) : tLc (iRng2 ta) (gName s) tt te [s] σ H Q := h

theorem lcL {a : Addr} {xs : List V} (ds : List PyData) (b : PyData → Bool) (f : PyData → PyData) (hn : ds.length < sizeLine) (hx : SqL K H1 a xs) (hxs : DpAll K H1 xs ds) (hdu : tupDs ds = true)
    (ht : ∀ d ∈ ds, b d = true → tupD (f d) = true)
    (htt : ∀ (i : Nat) (d : PyData) (x : V) (H : Hp), ds[i]? = some d → Dp K H x d → Kp M0 H1 H → ∀ Q' : Bool → Hp → Prop, (∀ H3, Kp M0 H H3 → Q' (b d) H3) → tt ((σ.set s none).set s (some x)) H Q')
    (hte : ∀ (i : Nat) (d : PyData) (x : V) (H : Hp), ds[i]? = some d → b d = true → Dp K H x d → Kp M0 H1 H → ∀ Q' : VK, (∀ y H4, Kp M0 H H4 → Dp K H4 y (f d) → Q' y H4) → te ((σ.set s none).set s (some x)) H Q')
    (hq : ∀ D H vs, H1 D = none → Kp M0 H1 H → H D = some (.lst vs) → DpAll K H vs ((ds.filter b).map f) → Q (.ref D) H) : LcL K s tt te σ Q (.ref a) H1 :=
  ⟨a, rfl, ⟨xs, hx⟩, fun D hD => lcp_list ds b f hD hn hx hxs hdu ht htt hte fun H vs => hq D H vs hD⟩
theorem lcT {a : Addr} {xs : List V} (ds : List PyData) (b : PyData → Bool) (f : PyData → PyData) (hn : ds.length < sizeLine) (hx : SqT K H1 a xs) (hxs : DpAll K H1 xs ds) (hdu : tupDs ds = true)
    (ht : ∀ d ∈ ds, b d = true → tupD (f d) = true)
    (htt : ∀ (i : Nat) (d : PyData) (x : V) (H : Hp), ds[i]? = some d → Dp K H x d → Kp M0 H1 H → ∀ Q' : Bool → Hp → Prop, (∀ H3, Kp M0 H H3 → Q' (b d) H3) → tt ((σ.set s none).set s (some x)) H Q')
    (hte : ∀ (i : Nat) (d : PyData) (x : V) (H : Hp), ds[i]? = some d → b d = true → Dp K H x d → Kp M0 H1 H → ∀ Q' : VK, (∀ y H4, Kp M0 H H4 → Dp K H4 y (f d) → Q' y H4) → te ((σ.set s none).set s (some x)) H Q')
    (hq : ∀ D H vs, H1 D = none → Kp M0 H1 H → H D = some (.lst vs) → DpAll K H vs ((ds.filter b).map f) → Q (.ref D) H) : LcT K s tt te σ Q (.ref a) H1 :=
  ⟨a, rfl, ⟨xs, hx⟩, fun D hD => lcp_tup ds b f hD hn hx hxs hdu ht htt hte fun H vs => hq D H vs hD⟩
/-- without a test -/
theorem htt_yes {ds : List PyData} (i : Nat) (d : PyData) (x : V) (H : Hp) (_ : ds[i]? = some d) (_ : Dp K H x d) (_ : Kp M0 H1 H) (Q' : Bool → Hp → Prop) (q : ∀ H3, Kp M0 H H3 → Q' ((fun _ => true) d) H3) : tYes ((σ.set s none).set s (some x)) H Q' := q H (Kp.refl H)
theorem lcR {n : Nat} (dd : Nat → PyData) (hn : n < sizeLine) (ht : ∀ i, i < n → tupD (dd i) = true)
    (hs : ∀ i H, i < n → Kp M0 H1 H → ∀ Q' : VK, (∀ y H4, Kp M0 H H4 → Dp K H4 y (dd i) → Q' y H4) → te ((σ.set s none).set s (some (.int (i : Nat)))) H Q')
    (hq : ∀ D H vs, H1 D = none → Kp M0 H1 H → H D = some (.lst vs) → DpAll K H vs ((List.range n).map dd) → Q (.ref D) H) : LcR s tYes te σ Q [.int n] H1 := by
  have hz : n < 16777216 := by rw [← sizeLine_eq]; exact hn
  refine ⟨n, rfl, by omega, by omega, fun D hD => ?_⟩
  rw [Int.toNat_natCast]
  exact lcp_range (K := K) dd hD hn ht (fun i H hi k Q' q => by
    have z := hs i H hi k Q' q
    rw [show (0 : Int) + (i : Nat) = (i : Nat) by omega]
    exact z) fun H vs => hq D H vs hD
theorem lcR2 {lo hi : Int} {n : Nat} (e : (hi - lo).toNat = n) (h1 : -1000000 ≤ lo) (h2 : lo ≤ 1000000) (h3 : -1000000 ≤ hi) (h4 : hi ≤ 1000000) (dd : Nat → PyData) (ht : ∀ i, i < n → tupD (dd i) = true)
    (hs : ∀ i H, i < n → Kp M0 H1 H → ∀ Q' : VK, (∀ y H4, Kp M0 H H4 → Dp K H4 y (dd i) → Q' y H4) → te ((σ.set s none).set s (some (.int (lo + (i : Nat))))) H Q')
    (hq : ∀ D H vs, H1 D = none → Kp M0 H1 H → H D = some (.lst vs) → DpAll K H vs ((List.range n).map dd) → Q (.ref D) H) : LcR2 s tYes te σ Q [.int lo, .int hi] H1 := by
  refine ⟨lo, hi, rfl, ⟨by omega, by omega, by omega, by omega⟩, fun D hD => ?_⟩
  rw [e]
  exact lcp_range (K := K) dd hD (by rw [sizeLine_eq]; omega) ht hs fun H vs => hq D H vs hD
end
end G
set_option Elab.async false
set_option linter.all false
set_option maxRecDepth 100000
namespace G
open PySem L2 PySem.Spec PyProof.Rows

/-! ### defs that are promised only where no repr is under way -/
abbrev NoRepr (R : Around) : Prop := R.guards = some []
/-- as FnOk, where no repr is under way -/
structure FnG (P : Program) (w : World) (K : PySem.W.Frag) (mg : Str → Option Value) (base : Heap) (k : Nat) (f : Addr) (fd : FuncData) (ps : List Str) (sp : Sp) : Prop where
  len : ∀ vs H Q E, sp vs H Q E → vs.length = ps.length
  run : ∀ (R : Around) (up : List Env) (z : Shared) (H : Hp) (gs : Args) (ys : List Value) (vs : List V) (Q : VK) (E : XK), NoRepr R → Room k R →
    Env0 P w K mg base R up z H → BindsTo z fd gs (ps.zip ys) → Vals vs ys → sp vs H Q E → codeAny (model P w) R (.call (.ref f) gs) (CR CX0 up P w H z Q E) z
section
variable {P : Program} {w : World} {K : PySem.W.Frag} {mg : Str → Option Value} {base : Heap}
theorem FnG.of {k : Nat} {f : Addr} {fd : FuncData} {ps : List Str} {sp : Sp} (F : FnOk P w K mg base CX0 k f fd ps sp) : FnG P w K mg base k f fd ps sp :=
  ⟨F.len, fun R up z H gs ys vs Q E _ => F.run R up z H gs ys vs Q E⟩
/-- a def by its body, where no repr is under way -/
theorem fnG_ok {x qual : Str} {st : Stmt} {f : Addr} {fd : FuncData} {N ps : List Str} {k : Nat} {sp : Sp} (F : Fun K x qual st f fd) (S : FnScope N ps (defScope st)) (len : ∀ vs H Q E, sp vs H Q E → vs.length = ps.length)
    (body : ∀ (cd : Value) (R : Around) (up : List Env) (z : Shared) (H : Hp) (vs : List V) (Q : VK) (E : XK), NoRepr (R.deeper (envOfC qual (defScope st) z.heap.objs.size f cd)) →
      Room k (R.deeper (envOfC qual (defScope st) z.heap.objs.size f cd)) → sp vs H Q E →
      ∃ t, PSs (cxOf CX0 P w K mg base N qual (defScope st) f cd R up z H E).nox (defBody st) t ∧ t { nx := fun _ H' => Q .non H', rt := Q } (L2.start N vs) H) : FnG P w K mg base (k + 1) f fd ps sp := by
  obtain ⟨oc, od, kV, doc, pm, an, cd, ct, osl, rfl, look, code⟩ := F.ex
  constructor
  · exact len
  intro R up z H gs ys vs Q E nr room e0 bind rel want
  have many := len _ _ _ _ want
  have stays : ∀ b o, base.get? b = some o → z.heap.get? b = some o := fun b o e => (e0.bs b o e).1
  have inK : K.In z.heap := e0.mod.kin.keeps stays
  have places : ∀ y ∈ ps.zip ys, (defScope st).names.lookup y.1 = some .local ∨
      ((defScope st).names.lookup y.1 = some .cell ∧ ((cellsFrom (z.heap.objs.size + 1) (defScope st).names []).lookup y.1).isSome = true) := by
    rintro ⟨n, v⟩ hy
    rcases S.par n (List.of_mem_zip hy).1 with q | q
    · exact Or.inl q
    · exact Or.inr ⟨q, PySem.W.cellsFrom_some _ _ _ (Or.inl q)⟩
  refine codeAny_call_function room.depth (inK _ _ look) rfl S.co S.gen rfl (PySem.W.codeRec_of inK code) (bind _ _ _ _ ?_)
  refine wpAny_newFunctionEnv_cells S.kind places fun env he z1 y => ?_
  subst he
  refine ⟨(e0.mod.nolimit.keeps stays).keeps y.toInCall.keep, codeAny_func ?_⟩
  obtain ⟨t, ht, done⟩ := body cd R up z H vs Q E nr (room.deeper _) want
  have start0 : Inv (cxOf CX0 P w K mg base N qual (defScope st) f cd R up z H E) [] (L2.start N vs) H z1 := inv_start S room.hd e0 many rel y
  refine wpAny_mono (ht.nox.run [] z1 (L2.start N vs) H _ start0 done) (fun fl z2 hz => ?_) fun e z2 hz => hz
  cases fl with
  | ret u =>
    obtain ⟨v, σ', H', J, rv, q⟩ := hz
    exact ⟨v, H', J.os, J.bare, J.base, J.hok, rv, q⟩
  | next =>
    obtain ⟨σ', H', J, q⟩ := hz
    exact ⟨V.non, H', J.os, J.bare, J.base, J.hok, rfl, q⟩
  | brk =>
    obtain ⟨_, _, _, q⟩ := hz
    cases q
  | cont =>
    obtain ⟨_, _, _, q⟩ := hz
    cases q
end
section
variable {X : Cx} {k : Nat} {f : Addr} {fd : FuncData} {ps : List Str} {sp : Sp} {x : Str} {p pos : Pos} {e : Expr} {es : List Expr} {t : TA}
/-- f(..), f such a def -/
theorem peG_call (F : FnG X.prog X.w X.K X.mg X.base k f fd ps sp) (nr : NoRepr X.A) (room : Room k X.A) (hg : Gl X x) (hm : X.mg x = some (.ref f)) (hk : PySem.W.keepIn X.K (.ref f) = true) (hb : Binds X.K fd ps [])
    (ha : PA X (e :: es) t) (hdb : (x == ("__debug__" : Str)) = false := by decide) (he : starEach (e :: es) X.env = (false, eval e X.env) :: starEach es X.env := by rfl) (hpl : (backTo pos (starEach es X.env)).any (·.1) = false := by rfl) :
    PE X (.Call (.Name x p) (e :: es) [] pos) (tCall sp [] E0 t) := by
  constructor
  intro pins s σ H Q I h
  refine wpAny_Call_Name_kw (ld_glob I hg hm ?_ hdb)
  refine PySem.W.callWith_K (h₀ := X.base) I.ok.mod.kin hk (thn (ha.run pos pins s σ H _ I h) fun us s1 ⟨vs, H1, I1, r, q⟩ => ⟨I1.kIn, ?_⟩) he hpl
  have q' : sp (vs ++ []) H1 Q E0 := q
  rw [List.append_nil] at q'
  have many : us.length = ps.length := by rw [← r.length]; exact F.len _ _ _ _ q'
  have bind := hb s1 us I1.kIn (by rw [List.append_nil]; exact many)
  rw [List.append_nil] at bind
  refine wpAny_call (codeAny_mono (F.run X.A X.stack s1 H1 ⟨us, []⟩ us vs Q E0 nr room I1.env0 bind r q') fun res s2 hz => ?_)
  cases res with
  | error e => exact False.elim hz
  | ok fl =>
    cases fl with
    | ret u => exact I1.after hz
    | next => exact False.elim hz
    | brk => exact False.elim hz
    | cont => exact False.elim hz

/-! ### repr of data -/
def rReprD (K : PySem.W.Frag) : List V → Hp → VK → Prop := fun xs H Q => ∃ v d, xs = [v] ∧ L2.Dp K H v d ∧ d.showable = true ∧ d.canLay0 = true ∧ d.depth ≤ 60 ∧ d.shown.length ≤ sizeLine ∧ Q (.str d.shown) H
theorem cr_reprD (hu : X.A.units + 65 < cLine) (nr : NoRepr X.A) : CallR X (.builtin "repr") (rReprD X.K) := by
  intro pins s σ H xs us Q I r h
  obtain ⟨v, d, rfl, hd, hs, hc, hz, hl, q⟩ := h
  obtain ⟨u, rfl, ru⟩ : ∃ u, us = [u] ∧ RelV v u := by
    cases r with
    | cons r1 r2 => cases r2; exact ⟨_, rfl, r1⟩
  cases hd with
  | non => cases ru; exact PySem.P.repr_of_none ⟨V.str _, H, I.tok _, ⟨_, rfl⟩, by simpa [PyData.shown] using q⟩
  | bl b => cases ru; exact PySem.P.repr_of_bool ⟨V.str _, H, I.tok _, ⟨_, rfl⟩, by simpa [PyData.shown] using q⟩
  | int i => obtain ⟨t, rfl⟩ := ru; exact PySem.P.repr_of_int (by simpa [PyData.showable] using hs) ⟨V.str _, H, I.tok _, ⟨_, rfl⟩, by simpa [PyData.shown] using q⟩
  | str x => obtain ⟨t, rfl⟩ := ru; exact PySem.P.repr_of_str ⟨V.str _, H, I.tok _, ⟨_, rfl⟩, by simpa [PyData.shown] using q⟩ hl
  | lst h1 h2 =>
    cases ru
    obtain ⟨as, rd⟩ := L2.Dp.reads I _ _ _ (.lst h1 h2) rfl
    exact repr_of_reads' rd hs (PyData.noDict_hsm (PyData.hasDict_of_canLay _ hc)) nr (by omega) (fun _ _ e => e) (fun h' u tk kk => ⟨V.str _, H, I.kept kk, ⟨_, rfl⟩, q⟩) hl
  | tup h1 h2 =>
    cases ru
    obtain ⟨as, rd⟩ := L2.Dp.reads I _ _ _ (.tup h1 h2) rfl
    exact repr_of_reads' rd hs (PyData.noDict_hsm (PyData.hasDict_of_canLay _ hc)) nr (by omega) (fun _ _ e => e) (fun h' u tk kk => ⟨V.str _, H, I.kept kk, ⟨_, rfl⟩, q⟩) hl
end
/-! ### the law's own call, where no repr is under way -/
section
variable {P : Program} {w : World} {K : PySem.W.Frag} {mg mb : Str → Option Value}
theorem enterG {k : Nat} {f l : Addr} {fd : FuncData} {x : Str} {sp : Sp} {z : Shared} {us : List Value} {ns : List Int}
    (kin : K.In z.heap) (gl : z.heap.Ns mainGlobals mg) (bl : z.heap.Ns builtinsNs mb) (bb : ∀ x : Str, x ≠ "__name__" → mb x = bootBuiltins x) (nl : z.heap.NoLimit) (ng : z.gens = #[])
    (hl : z.heap.get? l = some { cls := .type "list", data := .seq us.toArray }) (hi : IntsAre us ns) (many : ns.length ≤ sizeLine) (room : Room k callerA)
    (F : ∀ base : Heap, K.In base → base.Ns mainGlobals mg → FnG P w K mg base k f fd [x] sp) (bind : ∀ (s : Shared) (u : Value), BindsTo s fd ⟨[u], []⟩ [(x, u)])
    (want : ∀ H : Hp, SqL K H l (ns.map V.int) → sp [.ref l] H (fun v _ => v = .bl true) E0) :
    codeAny (model P w) callerA (.call (.ref f) ⟨[.ref l], []⟩) (fun r z' => r = .ok (.ret (.bool true)) ∧ OldK z.heap z'.heap ∧ z'.os = z.os ∧ AllBare z'.gens) z := by
  have rel := vals_ints hi
  have size := hi.length
  -- H has the script, known to its object, or nothing
  have go : ∀ H : Hp, (∀ b, H b = none ∨ (b = l ∧ H b = some (.frz { cls := .type "list", data := .seq us.toArray } (.lst (ns.map V.int))))) → SqL K H l (ns.map V.int) → HOk P w H z.heap → (H l ≠ none → K.lookup l = none) →
      codeAny (model P w) callerA (.call (.ref f) ⟨[.ref l], []⟩) (fun r z' => r = .ok (.ret (.bool true)) ∧ OldK z.heap z'.heap ∧ z'.os = z.os ∧ AllBare z'.gens) z := by
    intro H all seq held out
    have seqD : ∀ {b : Addr} {o : Obj} {es : Array DictEntry} {ep : Nat}, z.heap.get? b = some o → o.data = .dict es ep → H b = none := by
      intro b o es ep e d
      rcases all b with q | ⟨rfl, q⟩
      · exact q
      · rw [hl] at e
        cases e
        cases d
    have nsD : ∀ {b : Addr} {m : Str → Option Value}, z.heap.Ns b m → (hidT z.heap H).Ns b m := by
      rintro b m ⟨o, es, ep, e, d, r⟩
      exact ⟨o, es, ep, hidT_get e (seqD e d), d, r⟩
    have kinD : K.In (hidT z.heap H) := by
      intro b o e
      refine hidT_get (kin b o e) ?_
      rcases all b with q | ⟨rfl, q⟩
      · exact q
      · rw [out (by rw [q]; simp)] at e
        cases e
    have modD : Mod K mg (hidT z.heap H) := by
      obtain ⟨mc, n1, n2⟩ := nl
      exact ⟨kinD, nsD gl, ⟨mb, nsD bl, bb⟩, ⟨mc, nsD n1, n2⟩⟩
    have e0 : Env0 P w K mg (hidT z.heap H) callerA [] z H :=
      ⟨rfl, modD, fun b o e => of_hidT e, Nat.le_of_eq (hidT_size _ _), trivial, fun b hb => absurd (show b ∈ ([] : List Addr) from hb) (by simp), held, .of_eq ng⟩
    refine codeAny_mono ((F _ kinD (nsD gl)).run callerA [] z H ⟨[.ref l], []⟩ [.ref l] [.ref l] _ _ rfl room e0 (bind z (.ref l)) (.cons rfl .nil) (want H seq)) fun r z' got => ?_
    cases r with
    | error e => exact False.elim got
    | ok fl =>
      cases fl with
      | next => exact False.elim got
      | brk => exact False.elim got
      | cont => exact False.elim got
      | ret u =>
        obtain ⟨v, H', os, bare, un, held', rv, q⟩ := got
        have q' : v = .bl true := q
        subst q'
        obtain rfl : u = Value.bool true := rv
        refine ⟨rfl, OldK.of_keep fun b o e => ?_, os, bare⟩
        rcases all b with n | ⟨rfl, q⟩
        · exact un.keep b o e n (fun y => absurd (show b ∈ ([] : List Addr) from y) (by simp)) (by simp)
        · obtain ⟨e1, _⟩ := held b _ q
          obtain ⟨e2, _⟩ := held' b _ (un.frzs b _ _ q)
          rw [e] at e1
          cases e1
          exact e2
  cases hk : K.lookup l with
  | some o =>
    have e := kin l o hk
    rw [hl] at e
    cases e
    exact go (fun _ => none) (fun _ => Or.inl rfl) (Or.inr ⟨_, us.toArray, _, hk, rfl, rfl, rfl, by rw [List.size_toArray, size]; exact many, by simpa using rel⟩) (fun b u y => nomatch (show (none : Option HO) = some u from y)) fun y => absurd rfl y
  | none =>
    refine go (fun b => if b = l then some (.frz { cls := .type "list", data := .seq us.toArray } (.lst (ns.map V.int))) else none) (fun b => ?_) (Or.inl (Or.inr ⟨_, if_pos rfl⟩)) (fun b u y => ?_) fun _ => hk
    · by_cases hb : b = l
      · exact Or.inr ⟨hb, if_pos hb⟩
      · exact Or.inl (if_neg hb)
    · by_cases hb : b = l
      · have y' := (if_pos hb).symm.trans y
        cases y'
        subst hb
        exact ⟨hl, by rw [List.length_map]; exact many, us, _, rel, hl⟩
      · have y' := (if_neg hb).symm.trans y
        cases y'
end
/-- the goal that k_head leaves (case hc), from such a promise of the law's def -/
theorem walkG {l : PySem.W.OpenLaw} {n k : Nat} {q : Program} {loose : List Str} {XP : (Str → Option Value) → Heap → Prop} {YP : World → Heap → Prop} {d : DefRec} {K : Params → PySem.W.Frag} {sp : PySem.W.Frag → Sp} {x : Str}
    (hn : l.most = some n) (hn2 : n ≤ sizeLine) (hdf : d.params.defaults = []) (room : Room k callerA) (hY : ∀ (w : World) (h : Heap), YP w h → (K w.params).In h)
    (F : ∀ (w : World) (mg : Str → Option Value) (fa : Addr) (h : Heap), (K w.params).In h → h.Ns mainGlobals mg → mg d.name = some (.ref fa) →
      ∃ fd : FuncData, (∀ (s : Shared) (u : Value), BindsTo s fd ⟨[u], []⟩ [(x, u)]) ∧ ∀ base : Heap, (K w.params).In base → base.Ns mainGlobals mg → FnG l.prog w (K w.params) mg base k fa fd [x] (sp (K w.params)))
    (want : ∀ (K : PySem.W.Frag) (H : Hp) (a : Addr) (ns : List Int), ns.length ≤ n → SqL K H a (ns.map V.int) → sp K [.ref a] H (fun v _ => v = .bl true) E0) :
    PySem.W.WalkO q loose XP YP l.row.toRowW d [] (fun f vs => PySem.call f vs) := by
  refine Att.attach_call hn hdf fun w s₀ z mg mb fa o pm cd doc a vs ns G Y ho hd hcd hmg hobj hints hlen hg => ?_
  have kin := hY w _ Y
  obtain ⟨fd, bind, hF⟩ := F w mg fa _ kin G.T.g hmg
  exact enterG kin G.T.g G.T.b G.T.builtins G.T.nolimit hg hobj hints (Nat.le_trans hlen hn2) room hF bind fun H seq => want (K w.params) H a ns hlen seq
end G
set_option Elab.async false
set_option linter.all false
set_option maxRecDepth 100000
/-! points as pairs of ints: plain mathematics -/
namespace G

def ltP (x y : Pt) : Prop := x.1 * y.2 < y.1 * x.2
instance (x y : Pt) : Decidable (ltP x y) := inferInstanceAs (Decidable (_ < _))
/-- lowest terms -/
structure PtOk (x : Pt) : Prop where
  pos : 0 < x.2
  low : Int.gcd x.1 x.2 = 1
def Sz (b : Nat) (x : Pt) : Prop := x.1.natAbs < 2 ^ b ∧ x.2.natAbs < 2 ^ b
theorem Sz.mono {a b : Nat} {x : Pt} (h : Sz a x) (k : a ≤ b) : Sz b x :=
  ⟨Nat.lt_of_lt_of_le h.1 (Nat.pow_le_pow_right (by omega) k), Nat.lt_of_lt_of_le h.2 (Nat.pow_le_pow_right (by omega) k)⟩
def normP (p q : Int) : Pt := (p / (Int.gcd p q : Int), q / (Int.gcd p q : Int))

theorem gcd_pos' {p q : Int} (h : 0 < q) : 0 < (Int.gcd p q : Int) := by
  have : Int.gcd p q ≠ 0 := fun e => by
    have := (Int.gcd_eq_zero_iff.mp e).2
    omega
  omega
theorem norm_mul1 (p q : Int) : (normP p q).1 * (Int.gcd p q : Int) = p := Int.ediv_mul_cancel (Int.gcd_dvd_left ..)
theorem norm_mul2 (p q : Int) : (normP p q).2 * (Int.gcd p q : Int) = q := Int.ediv_mul_cancel (Int.gcd_dvd_right ..)
theorem norm_ok {p q : Int} (h : 0 < q) : PtOk (normP p q) := by
  have g := gcd_pos' (p := p) h
  constructor
  · have e := norm_mul2 p q
    by_cases c : 0 < (normP p q).2
    · exact c
    · have : (normP p q).2 * (Int.gcd p q : Int) ≤ 0 := Int.mul_nonpos_of_nonpos_of_nonneg (by omega) (by omega)
      omega
  · unfold normP
    exact Int.gcd_ediv_gcd_ediv_gcd (by omega)
theorem norm_id {x : Pt} (h : PtOk x) : normP x.1 x.2 = x := by
  unfold normP
  rw [h.low]
  simp
theorem ediv_abs_le (p : Int) {g : Int} (h : 0 < g) : (p / g).natAbs ≤ p.natAbs := Int.natAbs_ediv_le_natAbs p g
theorem norm_sz {p q : Int} {b : Nat} (h : 0 < q) (hp : p.natAbs < 2 ^ b) (hq : q.natAbs < 2 ^ b) : Sz b (normP p q) :=
  ⟨Nat.lt_of_le_of_lt (ediv_abs_le _ (gcd_pos' h)) hp, Nat.lt_of_le_of_lt (ediv_abs_le _ (gcd_pos' h)) hq⟩

theorem mul_pos_iff {a g : Int} (h : 0 < g) : 0 < a * g ↔ 0 < a := by
  constructor
  · intro k
    by_cases c : 0 < a
    · exact c
    · have := Int.mul_nonpos_of_nonpos_of_nonneg (show a ≤ 0 by omega) (show 0 ≤ g by omega)
      omega
  · intro k; exact Int.mul_pos k h
theorem mul_lt_iff {a b g : Int} (h : 0 < g) : a * g < b * g ↔ a < b := Int.mul_lt_mul_right h

/-- comparing with a point that is brought to lowest terms -/
theorem lt_norm_l {p q : Int} (h : 0 < q) (y : Pt) : ltP (normP p q) y ↔ p * y.2 < y.1 * q := by
  have g := gcd_pos' (p := p) h
  unfold ltP
  rw [← mul_lt_iff g, show (normP p q).1 * y.2 * (Int.gcd p q : Int) = ((normP p q).1 * (Int.gcd p q : Int)) * y.2 by rw [Int.mul_right_comm], norm_mul1, Int.mul_assoc, norm_mul2]
theorem lt_norm_r {p q : Int} (h : 0 < q) (y : Pt) : ltP y (normP p q) ↔ y.1 * q < p * y.2 := by
  have g := gcd_pos' (p := p) h
  unfold ltP
  rw [← mul_lt_iff g, Int.mul_assoc, norm_mul2, show (normP p q).1 * y.2 * (Int.gcd p q : Int) = ((normP p q).1 * (Int.gcd p q : Int)) * y.2 by rw [Int.mul_right_comm], norm_mul1]
theorem lt_irrefl (x : Pt) : ¬ ltP x x := by unfold ltP; omega
theorem lt_trans {x y z : Pt} (hx : 0 < x.2) (hy : 0 < y.2) (hz : 0 < z.2) (h1 : ltP x y) (h2 : ltP y z) : ltP x z := by
  unfold ltP at *
  have a : x.1 * y.2 * z.2 < y.1 * x.2 * z.2 := (mul_lt_iff hz).mpr h1
  have b : y.1 * z.2 * x.2 < z.1 * y.2 * x.2 := (mul_lt_iff hx).mpr h2
  have e1 : y.1 * x.2 * z.2 = y.1 * z.2 * x.2 := Int.mul_right_comm ..
  have c : x.1 * z.2 * y.2 < z.1 * x.2 * y.2 := by
    rw [Int.mul_right_comm x.1, Int.mul_right_comm z.1]; omega
  exact (mul_lt_iff hy).mp c
/-- two points in lowest terms are the same just if neither is less -/
theorem eq_of_mul {x y : Pt} (hx : PtOk x) (hy : PtOk y) (h : x.1 * y.2 = y.1 * x.2) : x = y := by
  have c : ∀ {x y : Pt}, PtOk x → PtOk y → x.1 * y.2 = y.1 * x.2 → x.2 ∣ y.2 := fun {x y} hx hy h => by
    have d : x.2 ∣ x.1 * y.2 := ⟨y.1, by rw [h, Int.mul_comm]⟩
    have d' := Int.dvd_gcd_mul_iff_dvd_mul.mpr d
    rw [Int.gcd_comm, hx.low] at d'
    simpa using d'
  have d1 := c hx hy h
  have d2 := c hy hx h.symm
  have e2 : x.2 = y.2 := Int.dvd_antisymm (by have := hx.pos; omega) (by have := hy.pos; omega) d1 d2
  have e1 : x.1 = y.1 := by
    rw [e2] at h
    exact Int.eq_of_mul_eq_mul_right (by have := hy.pos; omega) h
  exact Prod.ext e1 e2
theorem lt_tri {x y : Pt} (hx : PtOk x) (hy : PtOk y) : ltP x y ∨ x = y ∨ ltP y x := by
  by_cases a : ltP x y
  · exact .inl a
  · by_cases b : ltP y x
    · exact .inr (.inr b)
    · refine .inr (.inl (eq_of_mul hx hy ?_))
      unfold ltP at a b
      omega
theorem lt_asymm {x y : Pt} (h : ltP x y) : ¬ ltP y x := by unfold ltP at *; omega

/-- ascending rows of points -/
def Asc (l : List Pt) : Prop := l.Pairwise ltP

theorem abs_mul_lt {a b : Int} {m n : Nat} (ha : a.natAbs < 2 ^ m) (hb : b.natAbs < 2 ^ n) : (a * b).natAbs < 2 ^ (m + n) := by
  rw [Int.natAbs_mul, Nat.pow_add]
  exact Nat.mul_lt_mul'' ha hb
theorem abs_add_lt {a b : Int} {m : Nat} (ha : a.natAbs < 2 ^ m) (hb : b.natAbs < 2 ^ m) : (a + b).natAbs < 2 ^ (m + 1) := by
  rw [Nat.pow_succ]; omega
theorem abs_sub_lt {a b : Int} {m : Nat} (ha : a.natAbs < 2 ^ m) (hb : b.natAbs < 2 ^ m) : (a - b).natAbs < 2 ^ (m + 1) := by
  rw [Nat.pow_succ]; omega
theorem abs_mono {a : Int} {m n : Nat} (ha : a.natAbs < 2 ^ m) (h : m ≤ n) : a.natAbs < 2 ^ n := Nat.lt_of_lt_of_le ha (Nat.pow_le_pow_right (by omega) h)
end G
set_option Elab.async false
set_option linter.all false
set_option maxRecDepth 100000
/-! the rules that lean on the written part, with this part said -/
namespace G
open PySem L2
section
variable (K : PySem.W.Frag) {X : Cx} {tg l o e : Expr} {es : List Expr} {te tl : TE} {t : TA} {pos cpos apos : Pos} {name : Str} {T id : String} {r : V → List V → Hp → VK → Prop}
theorem k_ixT (h : X.K = K := by rfl) : IxR X (rIxT K) := h ▸ ix_tup
theorem k_ixL (h : X.K = K := by rfl) : IxR X (rIxL K) := h ▸ ix_list
theorem k_ixS (h : X.K = K := by rfl) : IxR X (rIx K) := h ▸ ix_seq
theorem k_slT (h : X.K = K := by rfl) : SlR X (rSlA K) := h ▸ sl_tupA
theorem k_slL (h : X.K = K := by rfl) : SlR X (rSlL K) := h ▸ sl_list
theorem k_inS (h : X.K = K := by rfl) : OpR X (compareOp .In) (rIn K false) := h ▸ op_in_seq
theorem k_notInS (h : X.K = K := by rfl) : OpR X (compareOp .NotIn) (rIn K true) := h ▸ op_notIn_seq
theorem k_eqD (hu : X.A.units + 64 < cLine) (h : X.K = K := by rfl) : OpR X (compareOp .Eq) (rEqD K) := h ▸ op_eqD hu
theorem k_neD (hu : X.A.units + 64 < cLine) (h : X.K = K := by rfl) : OpR X (compareOp .NotEq) (rNeD K) := h ▸ op_neD hu
theorem k_inD (hu : X.A.units + 65 < cLine) (h : X.K = K := by rfl) : OpR X (compareOp .In) (rInD K) := h ▸ op_inD hu
theorem k_notInD (hu : X.A.units + 65 < cLine) (h : X.K = K := by rfl) : OpR X (compareOp .NotIn) (rNotInD K) := h ▸ op_notInD hu
theorem k_catT (h : X.K = K := by rfl) : OpR X (binaryOp .Add) (rCatA K) := h ▸ op_catA
def rLenK (K : PySem.W.Frag) : List V → Hp → VK → Prop := fun xs H Q => ∃ p ys, xs = [.ref p] ∧ (SqL K H p ys ∨ SqT K H p ys) ∧ Q (.int ys.length) H
theorem c_len (h : X.K = K := by rfl) : CallR X (.builtin "len") (rLenK K) := h ▸ call_len_seq
def rTupK (K : PySem.W.Frag) : List V → Hp → VK → Prop := fun xs H Q => ∃ p ys, xs = [.ref p] ∧ ((SqL K H p ys ∧ ∀ l, H l = none → Q (.ref l) (upd H l (.tup ys))) ∨ (SqT K H p ys ∧ Q (.ref p) H))
theorem c_tuple (h : X.K = K := by rfl) : CallR X (.type "tuple") (rTupK K) := h ▸ call_tuple_of
def rLstK (K : PySem.W.Frag) : List V → Hp → VK → Prop := fun xs H Q => ∃ p ys, xs = [.ref p] ∧ (SqL K H p ys ∨ SqT K H p ys) ∧ ∀ l, H l = none → Q (.ref l) (upd H l (.lst ys))
theorem c_list (h : X.K = K := by rfl) : CallR X (.type "list") (rLstK K) := h ▸ call_list_of
theorem c_all (hc : X.calm = true) (h : X.K = K := by rfl) : CallR X (.builtin "all") (rAll K) := h ▸ cr_all hc
theorem c_any (hc : X.calm = true) (h : X.K = K := by rfl) : CallR X (.builtin "any") (rAny K) := h ▸ cr_any hc
theorem c_repr (hu : X.A.units + 65 < cLine) (nr : NoRepr X.A) (h : X.K = K := by rfl) : CallR X (.builtin "repr") (rReprD K) := h ▸ cr_reprD hu nr
theorem c_isi (h : X.K = K := by rfl) : CallR X (.builtin "isinstance") (rIsi K) := h ▸ call_isi
theorem i_list (hl : PE X l tl) (h : X.K = K := by rfl) : PI X tg l (iList K tl) := h ▸ pi_list hl
theorem i_tup (hl : PE X l tl) (h : X.K = K := by rfl) : PI X tg l (iTup K tl) := h ▸ pi_tup hl
theorem e_revL {k p1 p2 p3} (hl : PE X e te) (h : X.K = K := by rfl) : PE X (.Subscript e (.Slice none none (some (.UnaryOp .USub (.Constant (.int 1) k p1) p2)) p3) pos) (tRevL K te) := h ▸ pe_revL hl
theorem e_bm (q : PE X e (tBM X.K T r te t)) (h : X.K = K := by rfl) : PE X e (tBM K T r te t) := h ▸ q
theorem e_bm0 (q : PE X e (tBM0 X.K T r te)) (h : X.K = K := by rfl) : PE X e (tBM0 K T r te) := h ▸ q
theorem g_tup {n : Nat} {u : TGs} (q : PG X e (gTup X.K n u)) (h : X.K = K := by rfl) : PG X e (gTup K n u) := h ▸ q
end
def tTruK (K : PySem.W.Frag) (ta : TE) : TT := fun σ H Q => ta σ H fun x H' => ∃ k, TruV K x H' k ∧ Q k H'
theorem p_truth (K : PySem.W.Frag) {X : Cx} {a : Expr} {ta : TE} (ha : PE X a ta) (he : ∀ whole, isTrue a X.env whole = (do let v ← whole; standAt a.pos; holding [v] (truthy v))) (h : X.K = K := by rfl) : PT X a (tTruK K ta) := by
  subst h; exact pt_truth ha he
end G
set_option Elab.async false
set_option linter.all false
set_option maxRecDepth 100000
/-! for k, x in enumerate(t), t a tuple -/
namespace G
open PySem L2 PySem.Spec PyProof.Rows

abbrev tupIt (t : Addr) : Obj := { cls := .type "tuple_iterator", data := .fields #[.ref t, .int 0 0] }
abbrev enumAt (i : Addr) : Obj := { cls := .type "enumerate", data := .fields #[.none, .bool false, .ref i, rawInt 0, .none, .none] }
set_option maxHeartbeats 1000000 in
theorem meets_enum_tup (t : Addr) (things : Array Value) :
    Meets (Builtin.«enumerate.__new__» ⟨[.type "enumerate", .ref t], []⟩) (fun _ R z => z.heap.IsTuple t things ∧
      R (.ok (.ret (.ref (z.heap.push (tupIt t)).objs.size))) { z with heap := (z.heap.push (tupIt t)).push (enumAt z.heap.objs.size) }) :=
  .of_wp fun prog w A R z got => by
    obtain ⟨hp, g, d, tk, os⟩ := z
    obtain ⟨tup, got⟩ := got
    have hsub := sub_enumerate
    have q1 : ∀ {A' : Around} {E : Value → Shared → Prop} {Q : Value → Shared → Prop}, Q (.ref hp.objs.size) ⟨hp.push (tupIt t), g, d, tk, os⟩ → wpAny (model prog w) A' (pyIter (.ref t)) Q E ⟨hp, g, d, tk, os⟩ :=
      fun q => wpAny_pyIter_tuple tup q
    wp_walk using q1
    refine wpAny_stack_any fun st => wpAny_pure ?_
    split
    · rename_i c _ _ _ _ _
      cases (c == Value.type "enumerate")
      · wp_walk using q1
        exact ⟨_, rfl, got⟩
      · wp_walk using q1
        exact ⟨_, rfl, got⟩
    · wp_walk using q1
      exact ⟨_, rfl, got⟩
section
variable {prog : Program} {w : World} {A : Around} {E : Value → Shared → Prop} {z : Shared}
theorem call_enum_tup {t : Addr} {things : Array Value} {Q : Value → Shared → Prop} (tup : z.heap.IsTuple t things)
    (next : ∀ h', IsEnum h' (z.heap.objs.size + 1) z.heap.objs.size 0 .none → h'.IsTupleIter z.heap.objs.size t 0 → (∀ b o, z.heap.get? b = some o → h'.get? b = some o) → Q (.ref (z.heap.objs.size + 1)) { z with heap := h' }) :
    wpAny (model prog w) A (call (.type "enumerate") [.ref t]) Q E z := by
  refine callType_new F.called_enumerate (by decide) (F.typeCall_enumerate_1 _) (F.newCall_enumerate_1 _) (fun o => F.args_object_init_2 o _) F.entry_enumerate_new (meets_enum_tup t things) ⟨tup, ?_⟩
  have size1 : (z.heap.push (tupIt t)).objs.size = z.heap.objs.size + 1 := Heap.size_push ..
  have made : ((z.heap.push (tupIt t)).push (enumAt z.heap.objs.size)).get? (z.heap.objs.size + 1) = some (enumAt z.heap.objs.size) := by
    have q := Heap.get?_push_size (z.heap.push (tupIt t)) (o := enumAt z.heap.objs.size) rfl
    rw [size1] at q
    exact q
  show _ ∧ _
  rw [size1]
  exact ⟨⟨_, made, rfl⟩, next _ made ⟨_, Heap.get?_push_of_some _ (Heap.get?_push_size _ rfl), rfl, rfl⟩ fun b o x => Heap.get?_push_of_some _ (Heap.get?_push_of_some _ x)⟩
end
/-- the tuple at a, each item in a new pair with its number -/
def ItU (K : PySem.W.Frag) (a : Addr) : It where
  go := fun i H => ∃ (xs : List V) (x : V), SqT K H a xs ∧ xs[i]? = some x
  yld := fun i H v H' => ∃ T x, v = .ref T ∧ H T = none ∧ H' = upd H T (.tup [.int (i : Nat), x]) ∧ ∀ xs, SqT K H a xs → xs[i]? = some x
  stop := fun i H => ∃ xs : List V, SqT K H a xs ∧ xs.length = i
theorem enum_ne {h : Heap} {e it a : Addr} {c : Int} {old : Value} {things : Array Value} (he : IsEnum h e it c old) (ha : h.IsTuple a things) : e ≠ a := by
  rintro rfl
  obtain ⟨o, ho, hc, _⟩ := ha
  have he' : h.get? e = some _ := he
  rw [he'] at ho
  cases ho
  exact absurd hc (by simp)
theorem tupit_ne {h : Heap} {it a b : Addr} {i : Nat} {things : Array Value} (hi : h.IsTupleIter it b i) (ha : h.IsTuple a things) : a ≠ it := by
  rintro rfl
  obtain ⟨o, ho, hc, _⟩ := ha
  obtain ⟨o', ho', hc', _⟩ := hi
  rw [ho'] at ho
  cases ho
  rw [hc'] at hc
  exact absurd hc (by simp)
theorem turn_enumT {P : Program} {w : World} {K : PySem.W.Frag} {elts : List Expr} {kk : Nat} {tpos : Pos} (a e it : Addr) :
    Turn P w K (.Tuple elts kk tpos) (ItU K a) [e, it] e (fun i h => (∃ old, IsEnum h e it ((i : Nat) : Int) old) ∧ h.IsTupleIter it a i ∧ e ≠ it) where
  mem := by simp
  obj := by
    rintro i h ⟨⟨old, he⟩, ⟨o, ho, _, hd⟩, _⟩ b hb
    rcases (by simpa using hb : b = e ∨ b = it) with rfl | rfl
    · exact ⟨_, he, fun v q => nomatch q⟩
    · exact ⟨o, ho, fun v q => by rw [hd] at q; cases q⟩
  keep := by
    rintro i h h' ⟨⟨old, he⟩, hi, ne⟩ k
    exact ⟨⟨old, k e (by simp) _ he⟩, hi.at fun o q => k it (by simp) o q, ne⟩
  item := by
    intro X hP hw hK calm i pins z σ H E I fp st go
    subst hP hw hK
    obtain ⟨⟨old, he⟩, hi, ne⟩ := st
    obtain ⟨xs, x, hq, hx⟩ := go
    obtain ⟨its, rel, tup, _⟩ := I.tuple hq
    obtain ⟨u, hu, ru⟩ := rel.get hx
    have hlt : i < its.toArray.size := by
      have := (List.getElem?_eq_some_iff.mp hu).1
      simpa using this
    have ea := enum_ne he tup
    have low1 : e < z.heap.objs.size := Heap.lt_size he
    have low2 : it < z.heap.objs.size := by obtain ⟨_, q, _⟩ := hi; exact Heap.lt_size q
    have D := Draws.tuple (prog := X.prog) (w := X.w) (A := X.A.in1) (I.ok.hd calm) it a (tupit_ne hi tup) its.toArray
    refine wpAny_pyNext_enum_itemC D he ⟨hi, tup⟩ hlt ne (by simp [ne, ea]) fun y h' tk hy ho hst hT hsz kept => ?_
    have hy' : y = u := by
      have q1 : its.toArray[i]? = some u := by simpa using hu
      rw [q1] at hy
      exact (Option.some.inj hy).symm
    subst hy'
    refine ⟨_, rfl, wpAny_letOwnedTupleGo_enum (s := { z with heap := h', toks := tk + 1 }) ho fun h'' he' sb => ?_⟩
    have hT2 : h''.get? z.heap.objs.size = some { cls := .type "tuple", data := .seq #[.int i tk, y] } := (sb.2 _ (Nat.ne_of_gt low1)).trans hT
    have pair : ObjOk X.prog X.w (upd H z.heap.objs.size (.tup [.int (i : Nat), x])) h'' z.heap.objs.size (.tup [.int (i : Nat), x]) :=
      ⟨by show 2 ≤ sizeLine; decide, [.int i tk, y], .cons ⟨_, rfl⟩ (.cons ru .nil), ⟨_, hT2, rfl, _, rfl⟩⟩
    have J : Inv X pins σ (upd H z.heap.objs.size (.tup [.int (i : Nat), x])) { z with heap := h'', toks := tk + 1 } := by
      refine I.turnedNew (ch := [e, it]) (fun b o hb q => ?_) fp (Nat.le_refl _) pair
      have b1 : b ≠ e := fun y => hb (by simp [y])
      have b2 : b ≠ it := fun y => hb (by simp [y])
      exact (sb.2 b b1).trans (kept b o b1 b2 q)
    refine ⟨.ref z.heap.objs.size, _, J, rfl, ⟨_, x, rfl, I.hok.fresh (Nat.le_refl _), rfl, fun ys hys => by rw [I.tuple_inj hys hq]; exact hx⟩, ⟨⟨y, ?_⟩, hst.1.at fun o q => (sb.2 it (Ne.symm ne)).trans q, ne⟩, fun b hb => ?_⟩
    · rw [show ((i + 1 : Nat) : Int) = (i : Int) + 1 by omega]
      exact he'
    · have hb' : b < z.heap.objs.size := by
        rcases (by simpa using hb : b = e ∨ b = it) with rfl | rfl
        · exact low1
        · exact low2
      rw [upd_ne (Nat.ne_of_lt hb')]
      exact (fp b hb).1
  done := by
    intro X hP hw hK calm i pins z σ H E I fp st stop
    subst hP hw hK
    obtain ⟨⟨old, he⟩, hi, ne⟩ := st
    obtain ⟨xs, hq, hx⟩ := stop
    obtain ⟨its, rel, tup, _⟩ := I.tuple hq
    obtain ⟨f0, f1, _, f3, f4, f5⟩ := fp it (by simp)
    have many : its.toArray.size = i := by
      have := rel.length
      simpa [← this] using hx
    have D := Draws.tuple (prog := X.prog) (w := X.w) (A := X.A.in1) (I.ok.hd calm) it a (tupit_ne hi tup) its.toArray
    have st : z.heap.IsTupleIter it a its.toArray.size := by rw [many]; exact hi
    exact wpAny_pyNext_enum_endD D he ⟨st, tup⟩ fun h' eb => ⟨rfl, I.turned (t' := z.toks) (fun b o hb q => eb b o hb q) f0 f1 f3 f4 f5⟩
  self := by
    rintro A i z Q E ⟨⟨_, he⟩, _⟩ q
    exact wpAny_pyIter_enum he q

def iEnumT (K : PySem.W.Frag) (ta : TA) : TI := fun σ H R => ta σ H fun vs H1 => ∃ a xs, vs = [.ref a] ∧ SqT K H1 a xs ∧ R (ItU K a) H1
theorem i_enumT (K : PySem.W.Frag) {X : Cx} {e : Expr} {ta : TA} {p pos tpos : Pos} {elts : List Expr} {kk : Nat} (hg : Gl X "enumerate") (hm : X.mg "enumerate" = none) (ha : PA X [e] ta) (hs : starEach [e] X.env = [(false, eval e X.env)] := by rfl)
    (hK : X.K = K := by rfl) : PI X (.Tuple elts kk tpos) (.Call (.Name "enumerate" p) [e] [] pos) (iEnumT K ta) := by
  subst hK
  constructor
  intro pins z σ H R I want
  refine Call_ (ld_blt I hg hm boot_enumerate (callWith_type1 (thn (ha.run pos pins z σ H _ I want) fun us z1 ⟨vs, H1, I1, rel, q1⟩ => ?_) hs rfl))
  obtain ⟨a, xs, rfl, hq, q⟩ := q1
  cases rel with
  | cons r rr =>
    cases rr
    cases r
    obtain ⟨its, _, tup, _⟩ := I1.tuple hq
    refine call_enum_tup tup fun h' he hi kept => wpAny_pyIter_enum he ?_
    have I2 : Inv X pins σ H1 { z1 with heap := h' } := I1.kept (t' := z1.toks) kept
    refine ⟨z1.heap.objs.size + 1, [z1.heap.objs.size + 1, z1.heap.objs.size], _, _, H1, rfl, I2, turn_enumT a (z1.heap.objs.size + 1) z1.heap.objs.size, ⟨⟨.none, he⟩, hi, Nat.succ_ne_self _⟩, fun b hb => ?_, q⟩
    have low : z1.heap.objs.size ≤ b := by
      rcases (by simpa using hb : b = z1.heap.objs.size + 1 ∨ b = z1.heap.objs.size) with rfl | rfl
      · exact Nat.le_succ _
      · exact Nat.le_refl _
    exact I1.fpOk low (I1.hok.fresh low)
theorem for_enumT {K : PySem.W.Frag} {a : Addr} {xs : List V} {g : TG} {tb : TS} {D : Ends} {σ : L2.St} {H : Hp} (Pv : Nat → L2.St → Hp → Prop) (h0 : Pv 0 σ H) (hl : ∀ i σ H, i ≤ xs.length → Pv i σ H → SqT K H a xs)
    (hs : ∀ i x T σ H, xs[i]? = some x → Pv i σ H → H T = none → g (.ref T) σ (upd H T (.tup [.int (i : Nat), x])) fun σ2 H2 => tb { D with nx := Pv (i + 1), ct := Pv (i + 1), bk := D.nx } σ2 H2) (hd : ∀ σ H, Pv xs.length σ H → D.nx σ H) :
    ∃ W : Nat → Nat → L2.St → Hp → Prop, (∃ m, W 0 m σ H) ∧ ∀ i m σ H, W i m σ H →
      ((ItU K a).stop i H ∧ D.nx σ H) ∨ ((ItU K a).go i H ∧ ∃ N : L2.St → Hp → Prop, (∀ σ' H', N σ' H' → ∃ m', m' < m ∧ W (i + 1) m' σ' H') ∧ ∀ x H', (ItU K a).yld i H x H' → g x σ H' fun σ2 H2 => tb { D with nx := N, ct := N, bk := D.nx } σ2 H2) := by
  refine ⟨fun i m σ H => m = xs.length - i ∧ i ≤ xs.length ∧ Pv i σ H, ⟨xs.length, by simp, Nat.zero_le _, h0⟩, ?_⟩
  rintro i m σ H ⟨rfl, hi, p⟩
  have q := hl i σ H hi p
  by_cases c : i < xs.length
  · refine .inr ⟨⟨xs, xs[i], q, by simp [c]⟩, Pv (i + 1), fun σ' H' p' => ⟨xs.length - (i + 1), by omega, rfl, c, p'⟩, fun x H' y => ?_⟩
    obtain ⟨T, u, rfl, hT, rfl, hu⟩ := y
    exact hs i u T σ H (hu xs q) p hT
  · have e : i = xs.length := by omega
    subst e
    exact .inl ⟨⟨xs, q, rfl⟩, hd σ H p⟩
end G
set_option Elab.async false
set_option linter.all false
set_option maxRecDepth 100000
/-! small helps for readings -/
namespace G
open PySem L2
theorem i_enum (K : PySem.W.Frag) {X : Cx} {tg e : Expr} {ta : TA} (q : PI X tg e (iEnum X.K ta)) (h : X.K = K := by rfl) : PI X tg e (iEnum K ta) := h ▸ q
theorem i_zip (K : PySem.W.Frag) {X : Cx} {tg e : Expr} {ta : TA} (q : PI X tg e (iZip X.K ta)) (h : X.K = K := by rfl) : PI X tg e (iZip K ta) := h ▸ q
theorem dps_bools {K : PySem.W.Frag} {H : Hp} : ∀ {vs : List V} {bs : List Bool}, DpAll K H vs (bs.map PyData.bool) → vs = bs.map V.bl
  | _, [], h => by cases h; rfl
  | _, b :: bs, h => by
    cases h with
    | cons h1 h2 => cases h1; rw [dps_bools h2]; rfl
theorem tup_bools (bs : List Bool) : tupDs (bs.map PyData.bool) = true := tupDs_all.mpr fun d h => by
  obtain ⟨b, _, rfl⟩ := List.mem_map.mp h; rfl
/-- t[lo:hi] of a tuple -/
theorem slT {K : PySem.W.Frag} {H : Hp} {a : Addr} {xs : List V} {lo hi : Nat} {Q : VK} (h : SqT K H a xs)
    (q : ∀ b H', Kp M0 H H' → SqT K H' b ((xs.drop lo).take (hi - lo)) → Q (.ref b) H') : rSlA K (.ref a) (some (lo : Int)) (some (hi : Int)) H Q := by
  refine ⟨a, xs, rfl, h, fun c => ?_, fun _ p hp => ?_⟩
  · rw [HT.sIx_nat, HT.sIx_nat] at c
    refine q a H (Kp.refl H) ?_
    have e : (xs.drop lo).take (hi - lo) = xs := by
      by_cases z : xs.length = 0
      · rw [List.length_eq_zero_iff.mp z]; simp
      · have : lo = 0 := by omega
        subst this
        rw [List.drop_zero]
        exact List.take_of_length_le (by omega)
    rw [e]; exact h
  · refine q p _ (Kp.new hp) ?_
    have e : cutV xs (some (lo : Int)) (some (hi : Int)) = (xs.drop lo).take (hi - lo) := by
      unfold cutV
      rw [HT.sIx_nat, HT.sIx_nat]
      by_cases z : lo ≤ xs.length
      · rw [show min lo xs.length = lo by omega]
        by_cases y : hi ≤ xs.length
        · rw [show min hi xs.length = hi by omega]
        · rw [show min hi xs.length = xs.length by omega, List.take_of_length_le (by rw [List.length_drop]; omega), List.take_of_length_le (by rw [List.length_drop]; omega)]
      · rw [show min lo xs.length = xs.length by omega, List.drop_of_length_le (Nat.le_refl _), List.drop_of_length_le (by omega)]; simp
    rw [e]
    exact Or.inl (Or.inl upd_same)
theorem slL {K : PySem.W.Frag} {H : Hp} {a : Addr} {xs : List V} {lo hi : Option Int} {Q : VK} {l h : Nat} (hs : SqL K H a xs) (e1 : HT.sIx xs.length 0 lo = l) (e2 : HT.sIx xs.length xs.length hi = h)
    (q : ∀ p, H p = none → Q (.ref p) (upd H p (.lst ((xs.drop l).take (h - l))))) : rSlL K (.ref a) lo hi H Q := by
  refine ⟨a, xs, rfl, hs, fun p hp => ?_⟩
  have z := q p hp
  rw [← e1, ← e2] at z
  exact z
section
variable {K : PySem.W.Frag} {s : Nat} {te : TE} {σ : L2.St} {H1 : Hp} {Q : VK}
theorem lcRi {j : Int} {n : Nat} (e : j.toNat = n) (h1 : -1000000 ≤ j) (h2 : j ≤ 1000000) (dd : Nat → PyData) (ht : ∀ i, i < n → tupD (dd i) = true)
    (hs : ∀ i H, i < n → Kp M0 H1 H → ∀ Q' : VK, (∀ y H4, Kp M0 H H4 → Dp K H4 y (dd i) → Q' y H4) → te ((σ.set s none).set s (some (.int (i : Nat)))) H Q')
    (hq : ∀ D H vs, H1 D = none → Kp M0 H1 H → H D = some (.lst vs) → DpAll K H vs ((List.range n).map dd) → Q (.ref D) H) : LcR s tYes te σ Q [.int j] H1 := by
  refine ⟨j, rfl, by omega, by omega, fun D hD => ?_⟩
  rw [e]
  exact lcp_range (K := K) dd hD (by rw [sizeLine_eq]; omega) ht (fun i H hi k Q' q => by
    have z := hs i H hi k Q' q
    rw [show (0 : Int) + (i : Nat) = (i : Nat) by omega]
    exact z) fun H vs => hq D H vs hD
end
theorem SqL.keep {K : PySem.W.Frag} {H H' : Hp} {a : Addr} {xs : List V} (h : SqL K H a xs) (k : Kp M0 H H') : SqL K H' a xs := k.same.seq h
theorem none_back {M : Addr → Prop} {H H' : Hp} {p : Addr} (k : Kp M H H') (h : H' p = none) (m : ¬ M p) : H p = none := by
  cases e : H p with
  | none => rfl
  | some o => rw [k p o e m] at h; cases h
theorem none0 {H H' : Hp} {p : Addr} (k : Kp M0 H H') (h : H' p = none) : H p = none := none_back k h (fun z => z)
theorem sqT_mk {K : PySem.W.Frag} {H : Hp} {a : Addr} {xs : List V} (h : H a = some (.tup xs)) : SqT K H a xs := Or.inl (Or.inl h)
theorem sqL_mk {K : PySem.W.Frag} {H : Hp} {a : Addr} {xs : List V} (h : H a = some (.lst xs)) : SqL K H a xs := Or.inl (Or.inl h)
theorem hu65_of {A : Around} {k : Nat} (hr : Room k A) : A.units + 65 < cLine := by have := hr.un; omega
theorem for_enumL {K : PySem.W.Frag} {a : Addr} {xs : List V} {g : TG} {tb : TS} {D : Ends} {σ : L2.St} {H : Hp} (Pv : Nat → L2.St → Hp → Prop) (h0 : Pv 0 σ H) (hl : ∀ i σ H, i ≤ xs.length → Pv i σ H → SqL K H a xs)
    (hs : ∀ i x T σ H, xs[i]? = some x → Pv i σ H → H T = none → g (.ref T) σ (upd H T (.tup [.int (i : Nat), x])) fun σ2 H2 => tb { D with nx := Pv (i + 1), ct := Pv (i + 1), bk := D.nx } σ2 H2) (hd : ∀ σ H, Pv xs.length σ H → D.nx σ H) :
    ∃ W : Nat → Nat → L2.St → Hp → Prop, (∃ m, W 0 m σ H) ∧ ∀ i m σ H, W i m σ H →
      ((Ite K a).stop i H ∧ D.nx σ H) ∨ ((Ite K a).go i H ∧ ∃ N : L2.St → Hp → Prop, (∀ σ' H', N σ' H' → ∃ m', m' < m ∧ W (i + 1) m' σ' H') ∧ ∀ x H', (Ite K a).yld i H x H' → g x σ H' fun σ2 H2 => tb { D with nx := N, ct := N, bk := D.nx } σ2 H2) := by
  refine ⟨fun i m σ H => m = xs.length - i ∧ i ≤ xs.length ∧ Pv i σ H, ⟨xs.length, by simp, Nat.zero_le _, h0⟩, ?_⟩
  rintro i m σ H ⟨rfl, hi, p⟩
  have q := hl i σ H hi p
  by_cases c : i < xs.length
  · refine .inr ⟨⟨xs, xs[i], q, by simp [c]⟩, Pv (i + 1), fun σ' H' p' => ⟨xs.length - (i + 1), by omega, rfl, c, p'⟩, fun x H' y => ?_⟩
    obtain ⟨T, u, rfl, hT, rfl, hu⟩ := y
    exact hs i u T σ H (hu xs q) p hT
  · have e : i = xs.length := by omega
    subst e
    exact .inl ⟨⟨xs, q, Nat.le_refl _⟩, hd σ H p⟩
/-! loops whose source has been worked out -/
section
variable {K : PySem.W.Frag} {g : TG} {tb : TS} {D : Ends} {σ : L2.St} {H : Hp}
def ForIt (J : It) (g : TG) (tb : TS) (D : Ends) (σ : L2.St) (H1 : Hp) : Prop := ∃ W : Nat → Nat → L2.St → Hp → Prop, (∃ m, W 0 m σ H1) ∧ ∀ i m σ H, W i m σ H →
  (J.stop i H ∧ D.nx σ H) ∨ (J.go i H ∧ ∃ N : L2.St → Hp → Prop, (∀ σ' H', N σ' H' → ∃ m', m' < m ∧ W (i + 1) m' σ' H') ∧ ∀ x H', J.yld i H x H' → g x σ H' fun σ2 H2 => tb { D with nx := N, ct := N, bk := D.nx } σ2 H2)
def LfR (g : TG) (tb : TS) (D : Ends) (σ : L2.St) (vs : List V) (H1 : Hp) : Prop := ∃ j : Int, vs = [.int j] ∧ -(2 ^ 62) ≤ j ∧ j < 2 ^ 62 ∧ ForIt (Itr 0 j.toNat) g tb D σ H1
def LfL (K : PySem.W.Frag) (g : TG) (tb : TS) (D : Ends) (σ : L2.St) (x : V) (H1 : Hp) : Prop := ∃ a, x = .ref a ∧ (∃ xs, SqL K H1 a xs) ∧ ForIt (Itl K a) g tb D σ H1
def LfT (K : PySem.W.Frag) (g : TG) (tb : TS) (D : Ends) (σ : L2.St) (x : V) (H1 : Hp) : Prop := ∃ a, x = .ref a ∧ (∃ xs, SqT K H1 a xs) ∧ ForIt (Itt K a) g tb D σ H1
theorem tforR {ta : TA} (h : ta σ H (LfR g tb D σ)) : tFor (iRng1 ta) g tb D σ H := h
theorem tforL {tl : TE} (h : tl σ H (LfL K g tb D σ)) : tFor (iList K tl) g tb D σ H := h
theorem tforT {tl : TE} (h : tl σ H (LfT K g tb D σ)) : tFor (iTup K tl) g tb D σ H := h
end
end G
set_option Elab.async false
set_option linter.all false
set_option maxRecDepth 100000
set_option maxHeartbeats 2000000
/-! a lambda of one name, and sorted(.., key=it) -/
namespace G
open PySem L2 NdefX LamX PyProof.Rows
def lamF (qual : Str) (params : Arguments) (scope : Scope) (c' : Addr) : NF := ⟨"<lambda>", qual, params, [], scope, [], c'⟩
section
variable {P : Program} {w : World} {K : PySem.W.Frag} {mg : Str → Option Value} {base : Heap}
/-- a lambda's object, called with one value -/
theorem lam_run {A : Around} {outer : List Env} {s : Shared} {H : Hp} {f c' : Addr} {qual x : Str} {params : Arguments} {body : Expr} {scope : Scope} {pm ctv u : Value} {v : V} {Q : VK} {k : Nat} {tb : TE}
    (ho : s.heap.get? f = some (PySem.W.kla_obj "<lambda>" qual params body scope [] pm c' ctv)) (hc : s.heap.CodeRec (.ref c') qual)
    (S : NScope [x] [x] [] scope) (hb : bindArgs (PySem.W.kla_fn "<lambda>" qual params body scope [] pm (.ref c') ctv) ⟨[u], []⟩ = pure [(x, u)])
    (hr : Room (k + 1) A) (e0 : Env0 P w K mg base A outer s H) (rv : RelV v u)
    (pb : Room k (A.deeper (envF (lamF qual params scope c') f s.heap.objs.size)) → PE (ncx CX0 P w K mg base [x] (lamF qual params scope c') f A outer s H E0) body tb) (h : tb [some v] H Q) :
    codeAny (model P w) A (.call (.ref f) ⟨[u], []⟩) (CR CX0 outer P w H s Q E0) s := by
  have lim : s.heap.NoLimit := e0.mod.nolimit.keeps fun b o e => (e0.bs b o e).1
  refine PySem.W.kla_callFunE hr.depth ho rfl S.co S.gen rfl hc ?_
  rw [hb]
  refine wpAny_pure (wpAny_newFunctionEnv S.nocell (fun y hy => ?_) (fun h₁ hns hsb => ⟨lim.fresh _ hsb, ?_⟩) S.kind)
  · rw [List.mem_singleton.mp hy]
    exact S.par x (List.mem_singleton.mpr rfl)
  show codeAny _ _ (.expr body (envF (lamF qual params scope c') f s.heap.objs.size)) _ _
  have kp : ∀ b o, s.heap.get? b = some o → h₁.get? b = some o := fun b o e => hsb.extBut b o (Nat.ne_of_lt (Heap.lt_size e)) (Heap.get?_push_of_some _ e)
  have C0 : CellsAt (lamF qual params scope c').cl [] [] s.heap H := ⟨rfl, fun _ _ e => (nomatch e), fun _ _ _ e => (nomatch e), fun _ _ e => by simp at e⟩
  have I : Inv (ncx CX0 P w K mg base [x] (lamF qual params scope c') f A outer s H E0) [] (startF [x] [v] []) H { s with heap := h₁, toks := s.toks + [(x, u)].length } :=
    inv_startN (us := [u]) S hr.hd e0 rfl (.cons rv .nil) C0 hns kp
  refine PySem.W.kla_codeExpr (wpAny_mono ((pb (hr.deeper _)).run [] _ _ H Q I h) (fun v' s' hq => ?_) fun e s' hq => hq)
  obtain ⟨w', H', J', rv', q⟩ := hq
  exact ⟨w', H', J'.os, J'.bare, J'.base, J'.hok, rv', q⟩
end

section
variable {X : Cx} {pins : List (Addr × Obj)} {σ : L2.St} {H : Hp} {s : Shared}
theorem frs_ne (I : Inv X pins σ H s) {b : Addr} (f : FpOk X pins H b) : b ∉ frs X.stack := fun z => by
  rcases List.mem_cons.mp (I.stkSub b z) with q | q
  · exact f.2.1 q
  · exact f.2.2.1 q
/-- what has become of xs, sorted by the keys ks -/
def SortedBy (xs : List V) (ks : List Str) (out : List V) : Prop := out = ((xs.zip ks).mergeSort (PySem.W.dataLe false fun p => PyData.str p.2)).map (·.1)
theorem SortedBy.perm {xs : List V} {ks : List Str} {out : List V} (h : SortedBy xs ks out) (e : xs.length = ks.length) : out.Perm xs := by
  have p : ((xs.zip ks).mergeSort (PySem.W.dataLe false fun p => PyData.str p.2)).Perm (xs.zip ks) := List.mergeSort_perm ..
  have q := p.map (·.1)
  rw [← (show out = _ from h)] at q
  rw [List.map_fst_zip (by omega)] at q
  exact q
theorem each_vals {xs : List V} {us : List Value} (r : Vals xs us) : ∀ {ks : List Str}, xs.length = ks.length → PySem.W.EachIs (fun (u : Value) (p : V × Str) => RelV p.1 u) us (xs.zip ks) := by
  induction r with
  | nil => intro ks e; cases ks with
    | nil => exact .nil
    | cons => cases e
  | cons h t ih => intro ks e; cases ks with
    | nil => cases e
    | cons k ks => exact .cons h (ih (by simpa using e))
theorem vals_each : ∀ {us : List Value} {ps : List (V × Str)}, PySem.W.EachIs (fun (u : Value) (p : V × Str) => RelV p.1 u) us ps → Vals (ps.map (·.1)) us
  | _, _, .nil => .nil
  | _, _, .cons h t => .cons h (vals_each t)
theorem strs_alike (l : List Str) : PySem.W.AllAlike (l.map PyData.str) := fun d h d' h' => by
  obtain ⟨x, _, rfl⟩ := List.mem_map.mp h
  obtain ⟨y, _, rfl⟩ := List.mem_map.mp h'
  simp [PySem.W.alike]
theorem strs_sortable (l : List Str) : PySem.W.Sortable (l.map PyData.str) := .inr fun d h => by
  obtain ⟨x, _, rfl⟩ := List.mem_map.mp h
  exact ⟨fun z => (nomatch z), fun xs z => (nomatch z)⟩
/-- the state while the keys are worked out -/
def KeyI (X : Cx) (pins : List (Addr × Obj)) (σ : L2.St) (H : Hp) (a kS f : Addr) (e1 : Nat) (fo : Obj) (ks : List Str) (i : Nat) (s' : Shared) : Prop :=
  ∃ H' kA e, Inv X pins σ H' s' ∧ Kp M0 H H' ∧ FpOk X pins H' a ∧ FpOk X pins H' kS ∧ s'.heap.get? a = some (seqObj "list" #[] e1) ∧ s'.heap.get? kS = some (seqObj "list" kA e) ∧
    PySem.W.EachIs (fun (u : Value) (k : Str) => ∃ t, u = .str k t) kA.toList (ks.take i) ∧ H' f = none ∧ s'.heap.get? f = some fo
/-- sorted(l, key=f), f a function that gives a text for each item -/
theorem sorted_keyI {a f : Addr} {xs : List V} {ks : List Str} {fo : Obj} {Q : VK} (I : Inv X pins σ H s) (hs : SqL X.K H a xs) (hl : xs.length = ks.length) (hu : X.A.units + 8 < cLine)
    (hf : s.heap.get? f = some fo) (nf : H f = none) (ff : f ∉ frs X.stack)
    (turn : ∀ (i : Nat) (v : V) (k : Str), xs[i]? = some v → ks[i]? = some k → ∀ (s' : Shared) (H' : Hp) (u : Value), Inv X pins σ H' s' → Kp M0 H H' → s'.heap.get? f = some fo → RelV v u →
      codeAny (model X.prog X.w) X.A.in1.in1 (.call (.ref f) ⟨[u], []⟩) (CR CX0 X.stack X.prog X.w H' s' (fun y H2 => y = .str k ∧ Kp M0 H' H2) E0) s')
    (q : ∀ (out : List V) (p : Addr) (H2 : Hp), SortedBy xs ks out → H p = none → Kp M0 H H2 → H2 p = none → Q (.ref p) (upd H2 p (.lst out))) :
    wpAny (model X.prog X.w) X.A (call (.builtin "sorted") [.ref a] [(Str.ofString "key", .ref f)]) (EP X pins σ Q) X.xe s := by
  obtain ⟨its, rv, hpl, hz⟩ := I.list hs
  have il : its.length = xs.length := rv.length.symm
  have fsz : f < s.heap.objs.size := Heap.lt_size hf
  refine PySem.W.sorted_of_sort hpl.isList (by omega) (ksk_s1 _ _) (fun x => ksk_l1 _ _) fun E' => ?_
  rw [ksk_t1]
  generalize ea : s.heap.objs.size + 1 = a2
  have ha2 : s.heap.objs.size ≤ a2 := by omega
  have c0 : (PySem.W.copyHeap s.heap its).get? a2 = some (seqObj "list" its.toArray 0) := by rw [← ea]; exact PySem.W.copyHeap_at s.heap its
  have I0 : Inv X pins σ H { s with heap := PySem.W.copyHeap s.heap its } := I.kept (t' := s.toks) fun b o e => PySem.W.copyHeap_old e
  have n2 : H a2 = none := I.hok.fresh ha2
  have fp2 : FpOk X pins H a2 := I.fpOk ha2 n2
  unfold ksk_tree
  refine wpAny_bind (listItems_at c0 rfl ?_)
  refine wpAny_bind (listUpdate_at c0 rfl ?_ (by rw [List.size_toArray]; omega) (Nat.zero_le _))
  obtain ⟨e1, c1⟩ : ∃ e1, ((PySem.W.copyHeap s.heap its).update a2 (Obj.mapSeq fun _ => (#[] : Array Value))).get? a2 = some (seqObj "list" #[] e1) := ⟨_, get?_update_seq c0 fun _ => #[]⟩
  have I1 : Inv X pins σ H { s with heap := (PySem.W.copyHeap s.heap its).update a2 (Obj.mapSeq fun _ => (#[] : Array Value)) } :=
    Inv.turnedL (s := { s with heap := PySem.W.copyHeap s.heap its }) (t' := s.toks) (ch := [a2]) I0 (fun b o hb e => (Heap.get?_update_other _ _ (fun z => hb (by simp [z]))).trans e) (fun b hb => by rw [List.mem_singleton.mp hb]; exact fp2)
  generalize eh1 : (PySem.W.copyHeap s.heap its).update a2 (Obj.mapSeq fun _ => (#[] : Array Value)) = h1 at *
  have sz1 : h1.objs.size = s.heap.objs.size + 2 := by
    rw [← eh1, Heap.size_update]
    unfold PySem.W.copyHeap
    rw [Heap.size_push, Heap.size_update, Heap.size_push]
  have f1 : h1.get? f = some fo := by
    rw [← eh1]
    exact (Heap.get?_update_other _ _ (Ne.symm (Nat.ne_of_lt (Nat.lt_of_lt_of_le fsz ha2)))).trans (PySem.W.copyHeap_old hf)
  refine wpAny_bind (seqEpoch_at c1 rfl ?_)
  refine wpAny_bind (wpAny_newTuple ?_ (by simp; omega))
  refine wpAny_bind (wpAny_newList ?_ (Nat.zero_le _))
  refine wpAny_holding ?_
  have I2 : Inv X pins σ H { s with heap := (h1.push (seqObj "tuple" its.toArray 0)).push (seqObj "list" #[] 0) } :=
    I1.kept (t' := s.toks) fun b o e => Heap.get?_push_of_some _ (Heap.get?_push_of_some _ e)
  generalize ek : (h1.push (seqObj "tuple" its.toArray 0)).objs.size = kS
  have kSv : kS = s.heap.objs.size + 3 := by rw [← ek, Heap.size_push, sz1]
  have nk : H kS = none := I.hok.fresh (by omega)
  have fpk : FpOk X pins H kS := I.fpOk (by omega) nk
  have ck : ((h1.push (seqObj "tuple" its.toArray 0)).push (seqObj "list" #[] 0)).get? kS = some (seqObj "list" #[] 0) := by rw [← ek]; exact Heap.get?_push_size _ rfl
  have nka : kS ≠ a2 := Nat.ne_of_gt (show a2 < kS by omega)
  have nfa : f ≠ a2 := Nat.ne_of_lt (Nat.lt_of_lt_of_le fsz ha2)
  have nfk : f ≠ kS := Nat.ne_of_lt (Nat.lt_of_lt_of_le fsz (show s.heap.objs.size ≤ kS by omega))
  show wpAny (model X.prog X.w) X.A.in1.in1 (ksk_rest a2 (.ref f) false its.toArray e1 (.ref kS)) _ _ { s with heap := (h1.push (seqObj "tuple" its.toArray 0)).push (seqObj "list" #[] 0) }
  unfold ksk_rest
  refine wpAny_bind (wpAny_rule ?_)
  first
    | rw [List.forIn_toArray]
    | (rw [← Array.forIn_toList]; simp only [List.toList_toArray])
    | rw [← Array.forIn_toList]
  refine wpAny_bind (ksk_fold (KeyI X pins σ H a2 kS f e1 fo ks) its 0 _ ?start ?step ?done)
  case start =>
    exact ⟨H, #[], 0, I2, Kp.refl H, fp2, fpk, Heap.get?_push_of_some _ (Heap.get?_push_of_some _ c1), ck, by rw [List.take_zero]; exact .nil, nf, Heap.get?_push_of_some _ (Heap.get?_push_of_some _ f1)⟩
  case step =>
    rintro j u s' hj ⟨H', kA, e, J, k1, fa, fk, ga, gk, hk, nf', gf⟩
    simp only [Nat.zero_add] at hk ⊢
    have jl : j < its.length := (List.getElem?_eq_some_iff.mp hj).1
    obtain ⟨v, hv⟩ : ∃ v, xs[j]? = some v := ⟨_, List.getElem?_eq_getElem (by omega)⟩
    obtain ⟨k, hkj⟩ : ∃ k, ks[j]? = some k := ⟨_, List.getElem?_eq_getElem (by omega)⟩
    obtain ⟨u', hu', ru⟩ := rv.get hv
    rw [hj] at hu'
    cases hu'
    have kAl : kA.size = j := by
      have z := hk.length
      rw [Array.length_toList, List.length_take] at z
      omega
    refine wpAny_bind (wpAny_attempt (wpAny_call (codeAny_mono (turn j v k hv hkj s' H' u J k1 gf ru) fun r s'' hq => ?_)))
    cases r with
    | error e => exact False.elim hq
    | ok fl =>
      cases fl with
      | next => exact False.elim hq
      | brk => exact False.elim hq
      | cont => exact False.elim hq
      | ret y =>
        have J2 := J.after hq
        obtain ⟨vy, H2, os, bare, un, hok2, ry, rfl, k2⟩ := hq
        obtain ⟨t, rfl⟩ : ∃ t, y = Value.str k t := ry
        have ga2 := un.keep _ _ ga fa.1 (frs_ne J fa) (by simp)
        have gk2 := un.keep _ _ gk fk.1 (frs_ne J fk) (by simp)
        have gf2 := un.keep _ _ gf nf' ff (by simp)
        have fa2 : FpOk X pins H2 a2 := ⟨un.free _ _ ga fa.1 (by simp), fa.2⟩
        have fk2 : FpOk X pins H2 kS := ⟨un.free _ _ gk fk.1 (by simp), fk.2⟩
        have J3 : Inv X pins σ H2 s'' := Inv.call' (ch := []) J os un hok2 bare fun b z => (nomatch z)
        refine wpAny_bind (listUpdate_at gk2 rfl ?_ (by omega) (by rw [Array.size_push]; omega))
        obtain ⟨c2, hc2⟩ : ∃ c2, (s''.heap.update kS (Obj.mapSeq (·.push (Value.str k t)))).get? kS = some (seqObj "list" (kA.push (Value.str k t)) c2) := ⟨_, get?_update_seq gk2 (·.push (Value.str k t))⟩
        have off : ∀ b o, b ≠ kS → s''.heap.get? b = some o → (s''.heap.update kS (Obj.mapSeq (·.push (Value.str k t)))).get? b = some o := fun b o hb e => (Heap.get?_update_other _ _ (Ne.symm hb)).trans e
        refine wpAny_pure ⟨rfl, H2, kA.push (Value.str k t), c2, Inv.turnedL (t' := s''.toks) (ch := [kS]) J3 (fun b o hb e => off b o (fun z => hb (by simp [z])) e) (fun b hb => by rw [List.mem_singleton.mp hb]; exact fk2), k1.trans k2, fa2, fk2, off _ _ (Ne.symm nka) ga2, hc2, ?_, un.free _ _ gf nf' (by simp), off _ _ nfk gf2⟩
        have ek : ks.take (j + 1) = ks.take j ++ [k] := by rw [List.take_add_one, hkj]; rfl
        rw [ek, Array.toList_push]
        exact PySem.W.each_snoc ⟨t, rfl⟩ hk
  case done =>
    rintro s' ⟨H', kA, e, J, k1, fa, fk, ga, gk, hk, nf', gf⟩
    have ez : ks.take (0 + its.length) = ks := List.take_of_length_le (by omega)
    rw [ez] at hk
    have kAl : kA.size = its.length := by
      have z := hk.length
      rw [Array.length_toList] at z
      omega
    have er : PySem.W.EachIs (fun (u : Value) d => ∃ as, Reads s'.heap u d as) kA.toList (ks.map PyData.str) :=
      PySem.W.each_map (R := fun (u : Value) d => ∃ as, Reads s'.heap u d as) PyData.str (hk.mono fun u k z => by obtain ⟨t, rfl⟩ := z; exact ⟨[], .str k t⟩)
    refine wpAny_bind (listItems_at gk rfl ?_)
    refine PySem.W.keyH_end (κ := PySem.W.dataKind s'.heap (ks.map PyData.str)) (h₁ := hidT s'.heap fun b => if b = kS then some (.own 0) else none) (fun b o hb z => (of_hidT z).1) ?_ gk ga nka
      (PySem.W.SortsAt.data er (strs_alike ks) (strs_sortable ks) fun d hd => ?_) kAl (by omega) fun h' tk c kb hn => ⟨rfl, ?_⟩
    · cases z : (hidT s'.heap fun b => if b = kS then some (.own 0) else none).get? kS with
      | none => rfl
      | some o => have := (of_hidT z).2; rw [if_pos rfl] at this; cases this
    · obtain ⟨x, _, rfl⟩ := List.mem_map.mp hd
      show X.A.units + 1 + 1 + 0 < cLine
      omega
    have ko : PySem.W.KeyedOut false (ks.map PyData.str) its (PySem.W.sortVals (PySem.W.dataKind s'.heap (ks.map PyData.str)) false kA.toList its) := ⟨s'.heap, kA.toList, strs_alike ks, rfl, er⟩
    have em : (xs.zip ks).map (fun p : V × Str => PyData.str p.2) = ks.map PyData.str := by
      rw [show (fun p : V × Str => PyData.str p.2) = PyData.str ∘ Prod.snd from rfl, ← List.map_map, List.map_snd_zip (by omega)]
    rw [← em] at ko hn
    have ev := PySem.W.keyedOut_each (R := fun (u : Value) (p : V × Str) => RelV p.1 u) (fun p : V × Str => PyData.str p.2) ko (each_vals rv hl)
    have vals := vals_each ev
    have sb : SortedBy xs ks (((xs.zip ks).mergeSort (PySem.W.dataLe false fun p => PyData.str p.2)).map (·.1)) := rfl
    have ol : (((xs.zip ks).mergeSort (PySem.W.dataLe false fun p => PyData.str p.2)).map (·.1)).length ≤ sizeLine := by rw [(sb.perm hl).length_eq]; exact hz
    refine ⟨.ref a2, upd H' a2 (.lst _), Inv.take (s := { s' with heap := h', toks := tk }) (t' := tk) (Inv.turnedL (s := s') (t' := tk) (ch := [a2, kS]) J (fun b o hb z => ?_) (fun b hb => ?_)) (fun _ _ _ z => z) fa ⟨ol, _, c, vals, hn⟩, rfl, q _ a2 H' sb n2 k1 fa.1⟩
    · have b1 : b ≠ a2 := fun z => hb (by simp [z])
      have b2 : b ≠ kS := fun z => hb (by simp [z])
      exact kb b o b1 (hidT_get z (if_neg b2))
    · rcases List.mem_cons.mp hb with z | z
      · rw [z]; exact fa
      · rw [List.mem_singleton.mp z]; exact fk
end
/-- what sorted(.., key=lambda) asks and gives, its list worked out -/
def SortAsk (K : PySem.W.Frag) (T : List (Addr × Str)) (tb : TE) (Q : VK) (v : V) (H1 : Hp) : Prop := ∃ (a : Addr) (xs : List V) (ks : List Str), v = .ref a ∧ SqL K H1 a xs ∧ xs.length = ks.length ∧ Tabs T H1 ∧
  ∀ H2, ExtN H1 H2 → Tabs T H2 → SqL K H2 a xs ∧ (∀ (i : Nat) (v : V) (k : Str), xs[i]? = some v → ks[i]? = some k → ∀ H3, Kp M0 H2 H3 → tb [some v] H3 fun y H4 => y = .str k ∧ Kp M0 H3 H4) ∧
    ∀ (out : List V) (p : Addr) (H3 : Hp), SortedBy xs ks out → H2 p = none → Kp M0 H2 H3 → H3 p = none → Q (.ref p) (upd H3 p (.lst out))
/-- sorted(e, key=lambda x: body) -/
def tSortLam (K : PySem.W.Frag) (T : List (Addr × Str)) (te tb : TE) : TE := fun σ H Q => te σ H (SortAsk K T tb Q)
def oneV (R : VK) : List V → Hp → Prop := fun vs H => match vs with
  | [v] => R v H
  | _ => False
theorem in1_frames (A : Around) : A.in1.frames = A.frames := by rfl
section
variable {X : Cx}
theorem pe_sortedLam {T : List (Addr × Str)} {c P : Addr} {params : Arguments} {body e : Expr} {scope : Scope} {lpos kpos pos p : Pos} {te tb : TE} {x : Str} {k : Nat}
    (hg : Gl X "sorted") (hm : X.mg "sorted" = none) (ha : PE X e te) (TB : TabB X.base X.mg c P) (hcode : X.env.code = .ref c) (hmT : (P, X.env.qual ++ "<lambda>") ∈ T) (hu : ∀ p ∈ T, p.1 = P → p.2 = X.env.qual ++ "<lambda>")
    (hr : Room (k + 2) X.A) (S : NScope [x] [x] [] scope) (hdef : defaultsOf params X.env = ([], [])) (hclo : cloFrom X.env.cells scope.names [] = [])
    (hbind : ∀ (pm cd ctv u : Value), bindArgs (PySem.W.kla_fn "<lambda>" (X.env.qual ++ "<lambda>") params body scope [] pm cd ctv) ⟨[u], []⟩ = pure [(x, u)])
    (hnr : NoRepr X.A) (hbody : ∀ (s : Shared) (H : Hp) (f c' : Addr), Room k (X.A.in1.in1.deeper (envF (lamF (X.env.qual ++ "<lambda>") params scope c') f s.heap.objs.size)) → NoRepr (X.A.in1.in1.deeper (envF (lamF (X.env.qual ++ "<lambda>") params scope c') f s.heap.objs.size)) →
      PE (ncx CX0 X.prog X.w X.K X.mg X.base [x] (lamF (X.env.qual ++ "<lambda>") params scope c') f X.A.in1.in1 X.stack s H E0) body tb)
    (hs : starEach [e] X.env = (false, eval e X.env) :: starEach [] X.env := by rfl) (he : backTo pos (starEach [e] X.env) = (false, eval e X.env) :: backTo pos (starEach [] X.env) := by rfl) (hpl : (backTo pos (starEach [e] X.env)).any (·.1) = false := by rfl) :
    PE X (.Call (.Name "sorted" p) [e] [⟨some "key", .Lambda params body scope lpos, kpos⟩] pos) (tSortLam X.K T te tb) := by
  refine ⟨fun pins s σ H Q I h => ?_⟩
  refine wpAny_Call_Name_kw (ld_blt I hg hm (by rfl) ?_ (by decide) (by decide))
  refine PyProof.Rows.callWith_kw (thn ((pa_cons (hs := hs) ha pa_nil).run pos pins s σ H (oneV (SortAsk X.K T tb Q)) I h) fun us s1 ⟨vs, H1, I1, r1, q0⟩ => ?_) he hpl
  obtain ⟨v, rfl, q0⟩ : ∃ v, vs = [v] ∧ SortAsk X.K T tb Q v H1 := by
    match vs, q0 with
    | [v], z => exact ⟨v, rfl, z⟩
  obtain ⟨a, xs, ks, rfl, hq, hl, hT, q1⟩ := q0
  obtain ⟨u, rfl, ru⟩ : ∃ u, us = [u] ∧ RelV (.ref a) u := by
    cases r1 with
    | cons r1 r2 => cases r2; exact ⟨_, rfl, r1⟩
  obtain rfl : u = Value.ref a := ru
  have hfree : ∀ y ∈ scope.names, y.2 = .free → ∃ c, X.env.cells.lookup y.1 = some c := fun y hy z => by
    have q := S.free y hy z
    simp at q
  refine PyProof.Rows.kws_cons (lam_make2 I1 TB hcode hmT hu hT hdef hfree fun f c' pm ctv H2 s2 I2 eN T2 hf nf ff hco => ?_)
  refine PyProof.Rows.kws_nil ?_
  rw [hclo] at hf
  obtain ⟨hq2, tn, fin⟩ := q1 H2 eN T2
  show wpAny (model X.prog X.w) X.A (call (.builtin "sorted") [.ref a] [(Str.ofString "key", .ref f)]) (EP X pins σ Q) X.xe s2
  refine sorted_keyI I2 hq2 hl (by have := hr.un; omega) hf nf ff (fun i v kk hv hk s' H' u J k1 gf rv => ?_) fun out p H3 sb hp k3 hp3 => fin out p H3 sb hp k3 hp3
  have e0 := J.env0
  refine lam_run (tb := tb) (x := x) (k := k) gf (codeO_at J.hok (k1 c' _ hco fun z => z)) S (hbind _ _ _ _) ⟨hr.hd, ?_, ?_⟩ ⟨e0.frames, e0.mod, e0.bs, e0.bsz, e0.funs, e0.frf, e0.hok, e0.bare⟩ rv (fun hr' => hbody _ _ _ _ hr' hnr) (tn i v kk hv hk H' k1)
  · have := hr.dp
    show X.A.depth + 3 * (k + 1) + 5 < recursionLimit
    omega
  · have := hr.un
    show X.A.units + 1 + 1 + 16 * (k + 1) + 200 < cLine
    omega
/-- a def by its body, its code object known -/
theorem fnG_okC {P : Program} {w : World} {K : PySem.W.Frag} {mg : Str → Option Value} {base : Heap} {x qual : Str} {st : Stmt} {f c : Addr} {fd : FuncData} {N ps : List Str} {k : Nat} {sp : Sp} (F : Fun K x qual st f fd) (hc : fd.code = .ref c) (S : FnScope N ps (defScope st)) (len : ∀ vs H Q E, sp vs H Q E → vs.length = ps.length)
    (body : ∀ (R : Around) (up : List Env) (z : Shared) (H : Hp) (vs : List V) (Q : VK) (E : XK), NoRepr (R.deeper (envOfC qual (defScope st) z.heap.objs.size f (.ref c))) →
      Room k (R.deeper (envOfC qual (defScope st) z.heap.objs.size f (.ref c))) → sp vs H Q E →
      ∃ t, PSs (cxOf CX0 P w K mg base N qual (defScope st) f (.ref c) R up z H E).nox (defBody st) t ∧ t { nx := fun _ H' => Q .non H', rt := Q } (L2.start N vs) H) : FnG P w K mg base (k + 1) f fd ps sp := by
  obtain ⟨oc, od, kV, doc, pm, an, cd, ct, osl, rfl, look, code⟩ := F.ex
  have hcd : cd = .ref c := hc
  subst hcd
  constructor
  · exact len
  intro R up z H gs ys vs Q E nr room e0 bind rel want
  have many := len _ _ _ _ want
  have stays : ∀ b o, base.get? b = some o → z.heap.get? b = some o := fun b o e => (e0.bs b o e).1
  have inK : K.In z.heap := e0.mod.kin.keeps stays
  have places : ∀ y ∈ ps.zip ys, (defScope st).names.lookup y.1 = some .local ∨
      ((defScope st).names.lookup y.1 = some .cell ∧ ((cellsFrom (z.heap.objs.size + 1) (defScope st).names []).lookup y.1).isSome = true) := by
    rintro ⟨n, v⟩ hy
    rcases S.par n (List.of_mem_zip hy).1 with q | q
    · exact Or.inl q
    · exact Or.inr ⟨q, PySem.W.cellsFrom_some _ _ _ (Or.inl q)⟩
  refine codeAny_call_function room.depth (inK _ _ look) rfl S.co S.gen rfl (PySem.W.codeRec_of inK code) (bind _ _ _ _ ?_)
  refine wpAny_newFunctionEnv_cells S.kind places fun env he z1 y => ?_
  subst he
  refine ⟨(e0.mod.nolimit.keeps stays).keeps y.toInCall.keep, codeAny_func ?_⟩
  obtain ⟨t, ht, done⟩ := body R up z H vs Q E nr (room.deeper _) want
  have start0 : Inv (cxOf CX0 P w K mg base N qual (defScope st) f (.ref c) R up z H E) [] (L2.start N vs) H z1 := inv_start S room.hd e0 many rel y
  refine wpAny_mono (ht.nox.run [] z1 (L2.start N vs) H _ start0 done) (fun fl z2 hz => ?_) fun e z2 hz => hz
  cases fl with
  | ret u =>
    obtain ⟨v, σ', H', J, rv, q⟩ := hz
    exact ⟨v, H', J.os, J.bare, J.base, J.hok, rv, q⟩
  | next =>
    obtain ⟨σ', H', J, q⟩ := hz
    exact ⟨V.non, H', J.os, J.bare, J.base, J.hok, rfl, q⟩
  | brk =>
    obtain ⟨_, _, _, q⟩ := hz
    cases q
  | cont =>
    obtain ⟨_, _, _, q⟩ := hz
    cases q
/-! ### all stays but the tables of code objects and what is at M -/
def Kt (M : Addr → Prop) (H H' : Hp) : Prop := ∀ b o, H b = some o → (∀ ps, o ≠ .tbl ps) → ¬ M b → H' b = some o
theorem Kt.refl {M : Addr → Prop} (H : Hp) : Kt M H H := fun _ _ h _ _ => h
theorem Kt.trans {M : Addr → Prop} {H H1 H2 : Hp} (a : Kt M H H1) (b : Kt M H1 H2) : Kt M H H2 := fun c o h n m => b c o (a c o h n m) n m
theorem Kt.of {M : Addr → Prop} {H H' : Hp} (h : Kp M H H') : Kt M H H' := fun b o e _ m => h b o e m
theorem Kt.of0 {M : Addr → Prop} {H H' : Hp} (h : Kp M0 H H') : Kt M H H' := Kt.of h.of0
theorem Kt.ext {M : Addr → Prop} {H H' : Hp} (h : ExtN H H') : Kt M H H' := fun b o e n _ => h b o e n
theorem Kt.mono {M N : Addr → Prop} {H H' : Hp} (h : Kt M H H') (hs : ∀ b, M b → N b) : Kt N H H' := fun b o e n m => h b o e n fun z => m (hs b z)
theorem Kt.new {M : Addr → Prop} {H : Hp} {p : Addr} {o : HO} (h : H p = none) : Kt M H (upd H p o) := Kt.of (Kp.new h)
theorem Kt.at {M : Addr → Prop} {H H1 : Hp} {p : Addr} {o : HO} (h : Kt M H H1) (n : H p = none) : Kt M H (upd H1 p o) := fun a u e t m => by
  rw [upd_ne (ne_of_none e n)]; exact h a u e t m
theorem Kt.tk {M : Addr → Prop} {H H' : Hp} (h : Kt M H H') (hm : ∀ b o, M b → H b = some o → immut o = false) : Tk H H' := fun b o e i =>
  h b o e (fun ps z => by rw [z] at i; cases i) fun m => by rw [hm b o m e] at i; cases i
theorem Kt.tk0 {H H' : Hp} (h : Kt M0 H H') : Tk H H' := h.tk fun _ _ m => m.elim
theorem Kt.lst {M : Addr → Prop} {H H' : Hp} (h : Kt M H H') {p : Addr} {xs : List V} (e : H p = some (.lst xs)) (m : ¬ M p) : H' p = some (.lst xs) := h p _ e (fun _ z => by cases z) m
theorem Kt.dK {M : Addr → Prop} {H H' : Hp} (h : Kt M H H') {p : Addr} {kv : List (Key × V)} (e : H p = some (.dK kv)) (m : ¬ M p) : H' p = some (.dK kv) := h p _ e (fun _ z => by cases z) m
theorem Kt.sqL {K : PySem.W.Frag} {H H' : Hp} (h : Kt M0 H H') {a : Addr} {xs : List V} (e : SqL K H a xs) : SqL K H' a xs := by
  rcases e with (e | ⟨o, e⟩) | e
  · exact .inl (.inl (h.lst e fun z => z))
  · exact .inl (.inr ⟨o, h a _ e (fun _ z => by cases z) fun z => z⟩)
  · exact .inr e
theorem noneT {M : Addr → Prop} {H H' : Hp} {p : Addr} (k : Kt M H H') (h : H' p = none) (m : ¬ M p) : H p = none ∨ ∃ ps, H p = some (.tbl ps) := by
  cases e : H p with
  | none => exact .inl rfl
  | some o =>
    by_cases z : ∃ ps, o = .tbl ps
    · obtain ⟨ps, rfl⟩ := z; exact .inr ⟨ps, rfl⟩
    · rw [k p o e (fun ps y => z ⟨ps, y⟩) m] at h; cases h
theorem tabs_kp {T : List (Addr × Str)} {H H' : Hp} (t : Tabs T H) (k : Kp M0 H H') : Tabs T H' := t.ext fun b o e => k b o e fun z => z
theorem tabs_new {T : List (Addr × Str)} {H : Hp} {p : Addr} {o : HO} (t : Tabs T H) (h : H p = none) : Tabs T (upd H p o) := tabs_kp t (Kp.new h)
/-- a change of what is no table and no code object -/
theorem tabs_at {T : List (Addr × Str)} {H : Hp} {p : Addr} {o u : HO} (t : Tabs T H) (h : H p = some u) (hn : ∀ ps, u ≠ .tbl ps) (hc : ∀ φ, u ≠ .ext φ) : Tabs T (upd H p o) := fun y hy => by
  obtain ⟨ps, e1, e2, e3⟩ := t y hy
  refine ⟨ps, ?_, e2, fun pos cv z => ?_⟩
  · rw [upd_ne (fun q => by rw [q, h] at e1; exact hn ps (Option.some.inj e1))]; exact e1
  · obtain ⟨c, e4, e5⟩ := e3 pos cv z
    refine ⟨c, e4, ?_⟩
    rw [upd_ne (fun q => by rw [q, h] at e5; exact hc _ (Option.some.inj e5))]; exact e5
theorem tabs_lst {T : List (Addr × Str)} {H : Hp} {p : Addr} {xs : List V} {o : HO} (t : Tabs T H) (h : H p = some (.lst xs)) : Tabs T (upd H p o) := tabs_at t h (fun _ z => by cases z) fun _ z => by cases z
theorem tabs_dK {T : List (Addr × Str)} {H : Hp} {p : Addr} {kv : List (Key × V)} {o : HO} (t : Tabs T H) (h : H p = some (.dK kv)) : Tabs T (upd H p o) := tabs_at t h (fun _ z => by cases z) fun _ z => by cases z
end
end G
set_option Elab.async false
set_option linter.all false
set_option maxRecDepth 100000
/-! comprehensions whose steps may write tables of code objects -/
namespace G
open PySem L2 LamX
section
variable {K : PySem.W.Frag} {T : List (Addr × Str)} {s : Nat} {te : TE} {tt : TT} {σ : L2.St} {H1 : Hp} {D : Addr} {Q : VK}
/-- the elements that are there after i turns -/
def RowT (K : PySem.W.Frag) (T : List (Addr × Str)) (H1 : Hp) (D : Addr) (ds : List PyData) (b : PyData → Bool) (f : PyData → PyData) (i : Nat) (H : Hp) : Prop :=
  ∃ vs, Kt M0 H1 H ∧ Tabs T H ∧ H D = some (.lst vs) ∧ DpAll K H vs (((ds.take i).filter b).map f)
theorem turnT {ds : List PyData} {b : PyData → Bool} {f : PyData → PyData} {i : Nat} {x : V} {d : PyData} {H : Hp} {Nx : Hp → Prop} (hD : H1 D = none) (hn : ds.length < sizeLine) (ht : ∀ d ∈ ds, b d = true → tupD (f d) = true)
    (hi : ds[i]? = some d) (hx : Dp K H x d) (hp : RowT K T H1 D ds b f i H)
    (htt : ∀ Q' : Bool → Hp → Prop, (∀ H3, Kt M0 H H3 → Tabs T H3 → Q' (b d) H3) → tt ((wipe σ [s]).set s (some x)) H Q')
    (hte : b d = true → ∀ H3, Kt M0 H H3 → Tabs T H3 → ∀ Q' : VK, (∀ y H4, Kt M0 H3 H4 → Tabs T H4 → Dp K H4 y (f d) → Q' y H4) → te ((wipe σ [s]).set s (some x)) H3 Q')
    (hN : ∀ H', RowT K T H1 D ds b f (i + 1) H' → Nx H') :
    gName s x (wipe σ [s]) H fun σ2 H2 => wipe σ2 [s] = wipe σ [s] ∧ tt σ2 H2 fun c H3 =>
        if c = true then te σ2 H3 fun y H4 => ∃ acc, H4 D = some (.lst acc) ∧ acc.length < sizeLine ∧ Nx (upd H4 D (.lst (acc ++ [y]))) else Nx H3 := by
  obtain ⟨vs, k, tb, hd, ha⟩ := hp
  refine ⟨wipe1 σ s _, ?_⟩
  refine htt _ fun H3 k3 t3 => ?_
  have hm : d ∈ ds := List.mem_of_getElem? hi
  have hdu : tupDs (((ds.take i).filter b).map f) = true := tupDs_all.mpr fun z hz => by
    obtain ⟨y, hy, rfl⟩ := List.mem_map.mp hz
    obtain ⟨h1, h2⟩ := List.mem_filter.mp hy
    exact ht y (List.mem_of_mem_take h1) h2
  have hd3 : H3 D = some (.lst vs) := k3.lst hd fun z => z
  have hlen : vs.length ≤ ds.length := by
    rw [dps_len ha, List.length_map]
    exact Nat.le_trans (List.length_filter_le _ _) (by simp; omega)
  refine ite2 (fun hb => ?_) (fun hb => ?_)
  · refine hte hb H3 k3 t3 _ fun y H4 k4 t4 d4 => ?_
    have hd4 : H4 D = some (.lst vs) := k4.lst hd3 fun z => z
    refine ⟨vs, hd4, by omega, hN _ ⟨vs ++ [y], ((k.trans k3).trans k4).at hD, tabs_lst t4 hd4, upd_same, ?_⟩⟩
    rw [take_snoc hi, filter_snoc, if_pos hb, List.map_append]
    exact dps_app (dps_tk ((k3.trans k4).tk0.trans (Tk.lst hd4)) _ _ hdu ha) (dps_one (dp_tk (Tk.lst hd4) _ y (ht d hm hb) d4))
  · refine hN _ ⟨vs, k.trans k3, t3, hd3, ?_⟩
    rw [take_snoc hi, filter_snoc, if_neg hb, List.append_nil]
    exact dps_tk k3.tk0 _ _ hdu ha
theorem rowT_0 {ds : List PyData} {b : PyData → Bool} {f : PyData → PyData} (hD : H1 D = none) (t : Tabs T H1) : RowT K T H1 D ds b f 0 (upd H1 D (.lst [])) := ⟨[], (Kt.refl H1).at hD, tabs_new t hD, upd_same, by simp; exact .nil⟩
theorem lcLt {a : Addr} {xs : List V} (T : List (Addr × Str)) (ds : List PyData) (b : PyData → Bool) (f : PyData → PyData) (t : Tabs T H1) (hn : ds.length < sizeLine) (hx : SqL K H1 a xs) (hxs : DpAll K H1 xs ds) (hdu : tupDs ds = true)
    (ht : ∀ d ∈ ds, b d = true → tupD (f d) = true)
    (htt : ∀ (i : Nat) (d : PyData) (x : V) (H : Hp), ds[i]? = some d → Dp K H x d → Kt M0 H1 H → Tabs T H → ∀ Q' : Bool → Hp → Prop, (∀ H3, Kt M0 H H3 → Tabs T H3 → Q' (b d) H3) → tt ((σ.set s none).set s (some x)) H Q')
    (hte : ∀ (i : Nat) (d : PyData) (x : V) (H : Hp), ds[i]? = some d → b d = true → Dp K H x d → Kt M0 H1 H → Tabs T H → ∀ Q' : VK, (∀ y H4, Kt M0 H H4 → Tabs T H4 → Dp K H4 y (f d) → Q' y H4) → te ((σ.set s none).set s (some x)) H Q')
    (hq : ∀ D H vs, H1 D = none → Kt M0 H1 H → Tabs T H → H D = some (.lst vs) → DpAll K H vs ((ds.filter b).map f) → Q (.ref D) H) : LcL K s tt te σ Q (.ref a) H1 := by
  refine ⟨a, rfl, ⟨xs, hx⟩, fun D hD => ?_⟩
  have hl := dps_len hxs
  refine lc_list (xs := xs) (Qd := fun H => Q (.ref D) H) (RowT K T H1 D ds b f) (rowT_0 hD t) (fun i H _ ⟨_, k, _, _, _⟩ => k.sqL hx) (fun i x H hi hp => ?_) (fun H hp => ?_)
  · obtain ⟨vs, k, tb, hd, ha⟩ := id hp
    obtain ⟨d, e1, e2⟩ := dps_get (dps_tk k.tk0 _ _ hdu hxs) hi
    exact turnT hD hn ht e1 e2 hp (htt i d x H e1 e2 k tb) (fun hb H3 k3 t3 Q' q => hte i d x H3 e1 hb (dp_tk k3.tk0 d x (tupDs_all.mp hdu d (List.mem_of_getElem? e1)) e2) (k.trans k3) t3 Q' q) fun H' z => z
  · obtain ⟨vs, k, tb, hd, ha⟩ := hp
    rw [hl, List.take_length] at ha
    exact hq D H vs hD k tb hd ha
theorem lcTt {a : Addr} {xs : List V} (T : List (Addr × Str)) (ds : List PyData) (b : PyData → Bool) (f : PyData → PyData) (t : Tabs T H1) (hn : ds.length < sizeLine) (hx : SqT K H1 a xs) (hxs : DpAll K H1 xs ds) (hdu : tupDs ds = true)
    (ht : ∀ d ∈ ds, b d = true → tupD (f d) = true)
    (htt : ∀ (i : Nat) (d : PyData) (x : V) (H : Hp), ds[i]? = some d → Dp K H x d → Kt M0 H1 H → Tabs T H → ∀ Q' : Bool → Hp → Prop, (∀ H3, Kt M0 H H3 → Tabs T H3 → Q' (b d) H3) → tt ((σ.set s none).set s (some x)) H Q')
    (hte : ∀ (i : Nat) (d : PyData) (x : V) (H : Hp), ds[i]? = some d → b d = true → Dp K H x d → Kt M0 H1 H → Tabs T H → ∀ Q' : VK, (∀ y H4, Kt M0 H H4 → Tabs T H4 → Dp K H4 y (f d) → Q' y H4) → te ((σ.set s none).set s (some x)) H Q')
    (hq : ∀ D H vs, H1 D = none → Kt M0 H1 H → Tabs T H → H D = some (.lst vs) → DpAll K H vs ((ds.filter b).map f) → Q (.ref D) H) : LcT K s tt te σ Q (.ref a) H1 := by
  refine ⟨a, rfl, ⟨xs, hx⟩, fun D hD => ?_⟩
  have hl := dps_len hxs
  refine lc_tup (xs := xs) (Qd := fun H => Q (.ref D) H) (RowT K T H1 D ds b f) (rowT_0 hD t) (fun i H _ ⟨_, k, _, _, _⟩ => sqT_tk k.tk0 hx) (fun i x H hi hp => ?_) (fun H hp => ?_)
  · obtain ⟨vs, k, tb, hd, ha⟩ := id hp
    obtain ⟨d, e1, e2⟩ := dps_get (dps_tk k.tk0 _ _ hdu hxs) hi
    exact turnT hD hn ht e1 e2 hp (htt i d x H e1 e2 k tb) (fun hb H3 k3 t3 Q' q => hte i d x H3 e1 hb (dp_tk k3.tk0 d x (tupDs_all.mp hdu d (List.mem_of_getElem? e1)) e2) (k.trans k3) t3 Q' q) fun H' z => z
  · obtain ⟨vs, k, tb, hd, ha⟩ := hp
    rw [hl, List.take_length] at ha
    exact hq D H vs hD k tb hd ha
/-- without a test -/
theorem httT {ds : List PyData} (i : Nat) (d : PyData) (x : V) (H : Hp) (_ : ds[i]? = some d) (_ : Dp K H x d) (_ : Kt M0 H1 H) (t : Tabs T H) (Q' : Bool → Hp → Prop) (q : ∀ H3, Kt M0 H H3 → Tabs T H3 → Q' ((fun _ => true) d) H3) : tYes ((σ.set s none).set s (some x)) H Q' := q H (Kt.refl H) t
/-- over a range, each element known by P alone; what is at M may change, I is kept -/
theorem lcRg {n : Nat} {j : Int} (ej : j.toNat = n) (h1 : -1000000 ≤ j) (h2 : j ≤ 1000000) (M : Addr → Prop) (I : Hp → Prop) (P : Nat → PyData → Prop) (hI : ∀ D, H1 D = none → I (upd H1 D (.lst [])) ∧ ¬ M D)
    (hst : ∀ D H vs ws, I H → H D = some (.lst vs) → ¬ M D → I (upd H D (.lst ws))) (ht : ∀ i d, P i d → tupD d = true) (hm : ∀ H b o, I H → M b → H b = some o → immut o = false)
    (hs : ∀ i H, i < n → Kt M H1 H → I H → ∀ Q' : VK, (∀ y H4 d, Kt M H H4 → I H4 → P i d → Dp K H4 y d → Q' y H4) → te ((σ.set s none).set s (some (.int (i : Nat)))) H Q')
    (hq : ∀ D H vs ds, H1 D = none → Kt M H1 H → I H → H D = some (.lst vs) → DpAll K H vs ds → ds.length = n → (∀ i d, ds[i]? = some d → P i d) → Q (.ref D) H) : LcR s tYes te σ Q [.int j] H1 := by
  refine ⟨j, rfl, by omega, by omega, fun D hD => ?_⟩
  rw [ej]
  obtain ⟨i0, mD⟩ := hI D hD
  have hn : n < sizeLine := by rw [sizeLine_eq]; omega
  refine lc_range (Qd := fun H => Q (.ref D) H) (fun i H => ∃ vs ds, Kt M H1 H ∧ I H ∧ H D = some (.lst vs) ∧ DpAll K H vs ds ∧ ds.length = i ∧ ∀ j d, ds[j]? = some d → P j d)
    ⟨[], [], (Kt.refl H1).at hD, i0, upd_same, .nil, rfl, fun j d e => by simp at e⟩ (fun i H hi hp => ?_) (fun H hp => ?_)
  · obtain ⟨vs, ds, k, hi', hd, ha, hl, hP⟩ := hp
    refine ⟨wipe1 σ s _, ?_⟩
    show te _ H _
    rw [show (0 : Int) + (i : Nat) = (i : Nat) by omega]
    refine hs i H hi k hi' _ fun y H4 d k4 i4 p4 d4 => ?_
    have hd4 : H4 D = some (.lst vs) := k4.lst hd mD
    have tk : Tk H H4 := k4.tk fun b o m e => hm H b o hi' m e
    have hdu : tupDs ds = true := tupDs_all.mpr fun z hz => by
      obtain ⟨j, hj⟩ := List.getElem?_of_mem hz
      exact ht j z (hP j z hj)
    refine ⟨vs, hd4, ?_, vs ++ [y], ds ++ [d], (k.trans k4).at hD, hst D _ _ _ i4 hd4 mD, upd_same, ?_, by simp [hl], fun j z hz => ?_⟩
    · rw [dps_len ha, hl]; omega
    · exact dps_app (dps_tk (tk.trans (Tk.lst hd4)) _ _ hdu ha) (dps_one (dp_tk (Tk.lst hd4) d y (ht _ _ p4) d4))
    · by_cases hj : j < ds.length
      · rw [List.getElem?_append_left hj] at hz; exact hP j z hz
      · rw [List.getElem?_append_right (by omega)] at hz
        have e0 : j - ds.length = 0 := by
          cases h0 : j - ds.length with
          | zero => rfl
          | succ k => rw [h0] at hz; simp at hz
        rw [e0] at hz
        simp at hz
        subst hz
        have : j = i := by omega
        rw [this]; exact p4
  · obtain ⟨vs, ds, k, hi', hd, ha, hl, hP⟩ := hp
    exact hq D H vs ds hD k hi' hd ha hl hP
end
end G
set_option Elab.async false
set_option linter.all false
set_option maxRecDepth 100000
/-! rows of points: plain mathematics -/
namespace G
open PySem L2
theorem gcd_step {a b : Int} (ha : 0 ≤ a) (hb : 0 ≤ b) : Int.gcd b (a % b) = Int.gcd a b := by
  obtain ⟨m, rfl⟩ := Int.eq_ofNat_of_zero_le ha
  obtain ⟨n, rfl⟩ := Int.eq_ofNat_of_zero_le hb
  rw [Int.gcd_comm (m : Int)]
  show Nat.gcd n (m % n) = Nat.gcd n m
  rw [Nat.gcd_comm n, ← Nat.gcd_rec n m]

def betP (a b : Pt) (i n : Int) : Pt := normP (a.1 * b.2 * n + (b.1 * a.2 - a.1 * b.2) * i) (a.2 * b.2 * n)
/-- how many points are less -/
def lessN (l : List Pt) (y : Pt) : Nat := (l.filter fun x => decide (ltP x y)).length
def codeP (l : List Pt) (y : Pt) : Nat := if l[lessN l y]? = some y then 2 * lessN l y + 1 else 2 * lessN l y
theorem lessN_eq {l : List Pt} {y : Pt} {k : Nat} (hk : k ≤ l.length) (h1 : ∀ i x, i < k → l[i]? = some x → ltP x y) (h2 : ∀ i x, k ≤ i → l[i]? = some x → ¬ ltP x y) : lessN l y = k := by
  have e : l = l.take k ++ l.drop k := (List.take_append_drop k l).symm
  unfold lessN
  rw [e, List.filter_append]
  have e1 : (l.take k).filter (fun x => decide (ltP x y)) = l.take k := List.filter_eq_self.mpr fun x hx => by
    obtain ⟨i, hi⟩ := List.getElem?_of_mem hx
    have hik : i < k := by
      have := (List.getElem?_eq_some_iff.mp hi).1
      rw [List.length_take] at this; omega
    rw [List.getElem?_take_of_lt hik] at hi
    exact decide_eq_true (h1 i x hik hi)
  have e2 : (l.drop k).filter (fun x => decide (ltP x y)) = [] := List.filter_eq_nil_iff.mpr fun x hx => by
    obtain ⟨i, hi⟩ := List.getElem?_of_mem hx
    rw [List.getElem?_drop] at hi
    have := h2 (k + i) x (by omega) hi
    simp [this]
  rw [e1, e2, List.append_nil, List.length_take]
  omega
structure PtsOk (b : Nat) (l : List Pt) : Prop where
  ok : ∀ x ∈ l, PtOk x
  sz : ∀ x ∈ l, Sz b x
  asc : Asc l
theorem asc_get {l : List Pt} (h : Asc l) {i j : Nat} {x y : Pt} (hij : i < j) (hi : l[i]? = some x) (hj : l[j]? = some y) : ltP x y := by
  obtain ⟨h1, rfl⟩ := List.getElem?_eq_some_iff.mp hi
  obtain ⟨h2, rfl⟩ := List.getElem?_eq_some_iff.mp hj
  exact List.pairwise_iff_getElem.mp h i j h1 h2 hij

def atP (l : List Pt) (i : Nat) : Pt := l.getD i (0, 1)
def spreadI (l : List Pt) (gap n i : Nat) : Pt :=
  if l.length = 0 then ((i : Int), 1)
  else if gap = 0 then ((atP l 0).1 + ((i : Int) - n) * (atP l 0).2, (atP l 0).2)
  else if gap = l.length then ((atP l (l.length - 1)).1 + ((i : Int) + 1) * (atP l (l.length - 1)).2, (atP l (l.length - 1)).2)
  else betP (atP l (gap - 1)) (atP l gap) ((i : Int) + 1) ((n : Int) + 1)
def spreadP (l : List Pt) (gap n : Nat) : List Pt := (List.range n).map (spreadI l gap n)
theorem atP_some {l : List Pt} {i : Nat} (h : i < l.length) : l[i]? = some (atP l i) := by
  unfold atP
  rw [List.getD_eq_getElem?_getD, List.getElem?_eq_getElem h]; rfl
theorem atI_last {α : Type} {xs : List α} (h : 0 < xs.length) : atI xs (-1) = xs[xs.length - 1]? := by
  unfold atI ixN
  rw [if_neg (by omega), if_pos (by omega)]
  show xs[((-1 : Int) + (xs.length : Int)).toNat]? = _
  rw [show ((-1 : Int) + (xs.length : Int)).toNat = xs.length - 1 by omega]

theorem shift_ok {x : Pt} (h : PtOk x) (k : Int) : PtOk (x.1 + k * x.2, x.2) := by
  refine ⟨h.pos, ?_⟩
  show Int.gcd (x.1 + k * x.2) x.2 = 1
  rw [Int.gcd_add_mul_right_left]; exact h.low

theorem norm_lt_lo {a b : Pt} {i n : Int} (ha : PtOk a) (hb : PtOk b) (h : ltP a b) (hi : 0 < i) (hn : 0 < n) : ltP a (betP a b i n) := by
  unfold betP
  refine (lt_norm_r (Int.mul_pos (Int.mul_pos ha.pos hb.pos) hn) a).mpr ?_
  unfold ltP at h
  have d : 0 < (b.1 * a.2 - a.1 * b.2) * i * a.2 := Int.mul_pos (Int.mul_pos (by omega) hi) ha.pos
  have e1 : a.1 * (a.2 * b.2 * n) = a.1 * b.2 * n * a.2 := by ac_rfl
  rw [e1, Int.add_mul]
  omega
theorem norm_lt_hi {a b : Pt} {i n : Int} (ha : PtOk a) (hb : PtOk b) (h : ltP a b) (hi : i < n) (hn : 0 < n) : ltP (betP a b i n) b := by
  unfold betP
  refine (lt_norm_l (Int.mul_pos (Int.mul_pos ha.pos hb.pos) hn) b).mpr ?_
  unfold ltP at h
  have d : 0 < (b.1 * a.2 - a.1 * b.2) * (n - i) * b.2 := Int.mul_pos (Int.mul_pos (by omega) (by omega)) hb.pos
  have e1 : b.1 * (a.2 * b.2 * n) = b.1 * a.2 * n * b.2 := by ac_rfl
  rw [e1, ← Int.sub_pos]
  have e2 : b.1 * a.2 * n * b.2 - (a.1 * b.2 * n + (b.1 * a.2 - a.1 * b.2) * i) * b.2 = (b.1 * a.2 - a.1 * b.2) * (n - i) * b.2 := by
    rw [← Int.sub_mul]
    congr 1
    rw [Int.mul_sub, Int.sub_mul (b.1 * a.2) (a.1 * b.2) n]
    generalize (b.1 * a.2 - a.1 * b.2) * i = Z
    omega
  rw [e2]; exact d

theorem shift_lt {x : Pt} (h : 0 < x.2) {k : Int} (hk : 0 < k) : ltP x (x.1 + k * x.2, x.2) := by
  show x.1 * x.2 < (x.1 + k * x.2) * x.2
  have := Int.mul_pos hk h
  exact Int.mul_lt_mul_of_pos_right (by omega) h
theorem shift_gt {x : Pt} (h : 0 < x.2) {k : Int} (hk : k < 0) : ltP (x.1 + k * x.2, x.2) x := by
  show (x.1 + k * x.2) * x.2 < x.1 * x.2
  have := Int.mul_pos (show 0 < -k by omega) h
  rw [Int.neg_mul] at this
  exact Int.mul_lt_mul_of_pos_right (by omega) h

theorem norm_lt_same {p1 p2 q : Int} (hq : 0 < q) (h : p1 < p2) : ltP (normP p1 q) (normP p2 q) := by
  refine (lt_norm_l hq _).mpr ?_
  have g2 := gcd_pos' (p := p2) hq
  rw [← mul_lt_iff g2]
  have e1 : p1 * (normP p2 q).2 * (Int.gcd p2 q : Int) = p1 * q := by rw [Int.mul_assoc, norm_mul2]
  have e2 : (normP p2 q).1 * q * (Int.gcd p2 q : Int) = p2 * q := by rw [Int.mul_right_comm, norm_mul1]
  rw [e1, e2]
  exact (mul_lt_iff hq).mpr h
/-- the bits of places between -/
def gB (b : Nat) : Nat := 2 * b + 12
theorem bet_sg {a b : Pt} {i n : Int} {k : Nat} (ha : PtOk a) (hb : PtOk b) (sa : Sz k a) (sb : Sz k b) (hi : 0 ≤ i) (hi2 : i < 1024) (hn : 0 < n) (hn2 : n < 1024) : Sz (gB k) (betP a b i n) := by
  unfold betP gB
  have b1 : (a.1 * b.2).natAbs < 2 ^ (k + k) := abs_mul_lt sa.1 sb.2
  have b2 : (b.1 * a.2).natAbs < 2 ^ (k + k) := abs_mul_lt sb.1 sa.2
  have b3 : (a.2 * b.2).natAbs < 2 ^ (k + k) := abs_mul_lt sa.2 sb.2
  have bi : i.natAbs < 2 ^ 10 := by omega
  have bn : n.natAbs < 2 ^ 10 := by omega
  have c1 : (a.1 * b.2 * n).natAbs < 2 ^ (k + k + 10) := abs_mul_lt b1 bn
  have c2 : ((b.1 * a.2 - a.1 * b.2) * i).natAbs < 2 ^ (k + k + 1 + 10) := abs_mul_lt (abs_sub_lt b2 b1) bi
  have c3 : (a.2 * b.2 * n).natAbs < 2 ^ (k + k + 10) := abs_mul_lt b3 bn
  exact norm_sz (Int.mul_pos (Int.mul_pos ha.pos hb.pos) hn) (abs_mono (abs_add_lt (abs_mono c1 (by omega)) c2) (by omega)) (abs_mono c3 (by omega))
theorem shift_sg {x : Pt} {k : Int} {b : Nat} (h : Sz b x) (h1 : -1000 ≤ k) (h2 : k ≤ 1000) : Sz (gB b) (x.1 + k * x.2, x.2) := by
  have bk : k.natAbs < 2 ^ 10 := by omega
  have c1 : (k * x.2).natAbs < 2 ^ (10 + b) := abs_mul_lt bk h.2
  unfold gB
  exact ⟨abs_mono (abs_add_lt (abs_mono h.1 (by omega)) c1) (by omega), abs_mono h.2 (by omega)⟩
theorem small_sg {i : Int} {b : Nat} (h : 0 ≤ i) (h2 : i < 1000) : Sz (gB b) (i, 1) := by
  unfold gB
  exact ⟨abs_mono (m := 10) (by show i.natAbs < _; omega) (by omega), abs_mono (m := 10) (by show (1 : Int).natAbs < _; decide) (by omega)⟩
/-- where a spread place stands -/
theorem spread_at {l : List Pt} {b gap n i : Nat} (hl : PtsOk b l) (hg : gap ≤ l.length) (hn : n < 1000) (hi : i < n) :
    PtOk (spreadI l gap n i) ∧ Sz (gB b) (spreadI l gap n i) ∧ (∀ j x, j < gap → l[j]? = some x → ltP x (spreadI l gap n i)) ∧ (∀ j x, gap ≤ j → l[j]? = some x → ltP (spreadI l gap n i) x) := by
  by_cases l0 : l.length = 0
  · have g0 : gap = 0 := by omega
    subst g0
    have e : spreadI l 0 n i = ((i : Int), 1) := by unfold spreadI; rw [if_pos l0]
    rw [e]
    exact ⟨⟨by show (0 : Int) < 1; decide, by show Int.gcd _ 1 = 1; exact Int.gcd_one⟩, small_sg (by omega) (by omega), fun j x h => by omega, fun j x _ h => by have := (List.getElem?_eq_some_iff.mp h).1; omega⟩
  by_cases g0 : gap = 0
  · subst g0
    have h0 := atP_some (l := l) (i := 0) (by omega)
    have m0 := List.mem_of_getElem? h0
    have o0 := hl.ok _ m0
    have e : spreadI l 0 n i = ((atP l 0).1 + ((i : Int) - n) * (atP l 0).2, (atP l 0).2) := by unfold spreadI; rw [if_neg l0, if_pos rfl]
    rw [e]
    have ox := shift_ok o0 ((i : Int) - n)
    have lt := shift_gt o0.pos (k := (i : Int) - n) (by omega)
    refine ⟨ox, shift_sg (hl.sz _ m0) (by omega) (by omega), fun j x h => by omega, fun j x _ h => ?_⟩
    by_cases ej : j = 0
    · subst ej; rw [h0] at h; cases h; exact lt
    · exact lt_trans ox.pos o0.pos (hl.ok _ (List.mem_of_getElem? h)).pos lt (asc_get hl.asc (by omega) h0 h)
  by_cases g1 : gap = l.length
  · subst g1
    have h0 := atP_some (l := l) (i := l.length - 1) (by omega)
    have m0 := List.mem_of_getElem? h0
    have o0 := hl.ok _ m0
    have e : spreadI l l.length n i = ((atP l (l.length - 1)).1 + ((i : Int) + 1) * (atP l (l.length - 1)).2, (atP l (l.length - 1)).2) := by
      unfold spreadI; rw [if_neg l0, if_neg g0, if_pos rfl]
    rw [e]
    have ox := shift_ok o0 ((i : Int) + 1)
    have lt := shift_lt o0.pos (k := (i : Int) + 1) (by omega)
    refine ⟨ox, shift_sg (hl.sz _ m0) (by omega) (by omega), fun j x hj h => ?_, fun j x hj h => ?_⟩
    · by_cases ej : j = l.length - 1
      · subst ej; rw [h0] at h; cases h; exact lt
      · exact lt_trans (hl.ok _ (List.mem_of_getElem? h)).pos o0.pos ox.pos (asc_get hl.asc (by omega) h h0) lt
    · have := (List.getElem?_eq_some_iff.mp h).1; omega
  · have ha := atP_some (l := l) (i := gap - 1) (by omega)
    have hb := atP_some (l := l) (i := gap) (by omega)
    have ma := List.mem_of_getElem? ha
    have mb := List.mem_of_getElem? hb
    have oa := hl.ok _ ma
    have ob := hl.ok _ mb
    have ab := asc_get hl.asc (by omega) ha hb
    have e : spreadI l gap n i = betP (atP l (gap - 1)) (atP l gap) ((i : Int) + 1) ((n : Int) + 1) := by unfold spreadI; rw [if_neg l0, if_neg g0, if_neg g1]
    rw [e]
    have lo := norm_lt_lo oa ob ab (i := (i : Int) + 1) (n := (n : Int) + 1) (by omega) (by omega)
    have hi' := norm_lt_hi oa ob ab (i := (i : Int) + 1) (n := (n : Int) + 1) (by omega) (by omega)
    have ox : PtOk (betP (atP l (gap - 1)) (atP l gap) ((i : Int) + 1) ((n : Int) + 1)) := norm_ok (Int.mul_pos (Int.mul_pos oa.pos ob.pos) (by omega))
    refine ⟨ox, bet_sg oa ob (hl.sz _ ma) (hl.sz _ mb) (by omega) (by omega) (by omega) (by omega), fun j x hj h => ?_, fun j x hj h => ?_⟩
    · by_cases ej : j = gap - 1
      · subst ej; rw [ha] at h; cases h; exact lo
      · exact lt_trans (hl.ok _ (List.mem_of_getElem? h)).pos oa.pos ox.pos (asc_get hl.asc (by omega) h ha) lo
    · by_cases ej : j = gap
      · subst ej; rw [hb] at h; cases h; exact hi'
      · exact lt_trans ox.pos ob.pos (hl.ok _ (List.mem_of_getElem? h)).pos hi' (asc_get hl.asc (by omega) hb h)
theorem spread_lt {l : List Pt} {b gap n i j : Nat} (hl : PtsOk b l) (hg : gap ≤ l.length) (hij : i < j) : ltP (spreadI l gap n i) (spreadI l gap n j) := by
  unfold spreadI
  by_cases l0 : l.length = 0
  · rw [if_pos l0, if_pos l0]; show (i : Int) * 1 < j * 1; omega
  rw [if_neg l0, if_neg l0]
  have sh : ∀ (x : Pt) (k m : Int), 0 < x.2 → k < m → ltP (x.1 + k * x.2, x.2) (x.1 + m * x.2, x.2) := fun x k m hx hk => by
    have := shift_lt (x := (x.1 + k * x.2, x.2)) hx (k := m - k) (by omega)
    have e : x.1 + k * x.2 + (m - k) * x.2 = x.1 + m * x.2 := by rw [Int.sub_mul]; omega
    rw [← e]; exact this
  by_cases g0 : gap = 0
  · rw [if_pos g0, if_pos g0]
    exact sh _ _ _ (hl.ok _ (List.mem_of_getElem? (atP_some (l := l) (i := 0) (by omega)))).pos (by omega)
  rw [if_neg g0, if_neg g0]
  by_cases g1 : gap = l.length
  · rw [if_pos g1, if_pos g1]
    exact sh _ _ _ (hl.ok _ (List.mem_of_getElem? (atP_some (l := l) (i := l.length - 1) (by omega)))).pos (by omega)
  rw [if_neg g1, if_neg g1]
  have ha := atP_some (l := l) (i := gap - 1) (by omega)
  have hb := atP_some (l := l) (i := gap) (by omega)
  have oa := hl.ok _ (List.mem_of_getElem? ha)
  have ob := hl.ok _ (List.mem_of_getElem? hb)
  have ab := asc_get hl.asc (by omega) ha hb
  unfold betP
  refine norm_lt_same (Int.mul_pos (Int.mul_pos oa.pos ob.pos) (by omega)) ?_
  unfold ltP at ab
  have : ((atP l gap).1 * (atP l (gap - 1)).2 - (atP l (gap - 1)).1 * (atP l gap).2) * ((i : Int) + 1) < ((atP l gap).1 * (atP l (gap - 1)).2 - (atP l (gap - 1)).1 * (atP l gap).2) * ((j : Int) + 1) := Int.mul_lt_mul_of_pos_left (by omega) (by omega)
  omega
theorem spread_mem {l : List Pt} {gap n : Nat} {x : Pt} (h : x ∈ spreadP l gap n) : ∃ i, i < n ∧ x = spreadI l gap n i := by
  obtain ⟨i, hi, rfl⟩ := List.mem_map.mp h
  exact ⟨i, List.mem_range.mp hi, rfl⟩
theorem spread_asc {l : List Pt} {b gap n : Nat} (hl : PtsOk b l) (hg : gap ≤ l.length) : Asc (spreadP l gap n) := by
  unfold spreadP Asc
  rw [List.pairwise_map]
  exact List.pairwise_lt_range.imp fun h => spread_lt hl hg h
theorem PtsOk.mono {a b : Nat} {l : List Pt} (h : PtsOk a l) (k : a ≤ b) : PtsOk b l := ⟨h.ok, fun x m => (h.sz x m).mono k, h.asc⟩
theorem PtsOk.nil {b : Nat} : PtsOk b [] := ⟨fun _ h => by simp at h, fun _ h => by simp at h, List.Pairwise.nil⟩
theorem lt_ne {x y : Pt} (h : ltP x y) : x ≠ y := fun e => lt_irrefl y (by rw [e] at h; exact h)
theorem Asc.nodup {l : List Pt} (h : Asc l) : l.Nodup := h.imp fun h => lt_ne h

/-! ### rows brought to ascend -/
theorem filter_take {α : Type} {p : α → Bool} : ∀ {l : List α}, l.Pairwise (fun x y => p y = true → p x = true) → l.filter p = l.take (l.filter p).length ∧ ∀ y ∈ l.drop (l.filter p).length, p y = false
  | [], _ => by simp
  | a :: l, h => by
    obtain ⟨h1, h2⟩ := List.pairwise_cons.mp h
    obtain ⟨e1, e2⟩ := filter_take h2
    by_cases pa : p a = true
    · rw [List.filter_cons_of_pos pa, List.length_cons, List.take_succ_cons, ← e1, List.drop_succ_cons]
      exact ⟨rfl, e2⟩
    · have no : l.filter p = [] := List.filter_eq_nil_iff.mpr fun y hy z => pa (h1 y hy z)
      rw [List.filter_cons_of_neg pa, no]
      refine ⟨by simp, fun y hy => ?_⟩
      simp only [List.length_nil, List.drop_zero] at hy
      rcases List.mem_cons.mp hy with rfl | hy
      · exact Bool.eq_false_iff.mpr pa
      · exact Bool.eq_false_iff.mpr fun z => pa (h1 y hy z)
def lowP (found : List Pt) (x : Pt) : List Pt := found.filter fun y => decide (ltP y x)
def insP (found : List Pt) (x : Pt) : List Pt := if x ∈ found then found else lowP found x ++ [x] ++ found.drop (lowP found x).length
def ascP (l : List Pt) : List Pt := l.foldl insP []
theorem low_take {b : Nat} {found : List Pt} {x : Pt} (h : PtsOk b found) (hx : PtOk x) : lowP found x = found.take (lowP found x).length ∧ ∀ y ∈ found.drop (lowP found x).length, ¬ ltP y x := by
  have q := filter_take (p := fun y => decide (ltP y x)) (l := found) (List.Pairwise.imp_of_mem (fun {u v} hu hv huv hv2 => decide_eq_true (lt_trans (h.ok u hu).pos (h.ok v hv).pos hx.pos huv (of_decide_eq_true hv2))) h.asc)
  exact ⟨q.1, fun y hy z => by have := q.2 y hy; simp [z] at this⟩
theorem ins_ok {b : Nat} {found : List Pt} {x : Pt} (h : PtsOk b found) (hx : PtOk x) (sx : Sz b x) : PtsOk b (insP found x) ∧ (∀ y, y ∈ insP found x ↔ y ∈ found ∨ y = x) ∧ (x ∉ found → (insP found x).length = found.length + 1) := by
  unfold insP
  by_cases m : x ∈ found
  · rw [if_pos m]
    exact ⟨h, fun y => ⟨.inl, fun z => z.elim id fun e => e ▸ m⟩, fun n => absurd m n⟩
  rw [if_neg m]
  obtain ⟨e1, e2⟩ := low_take h hx
  have mem : ∀ y, y ∈ lowP found x ++ [x] ++ found.drop (lowP found x).length ↔ y ∈ found ∨ y = x := fun y => by
    rw [List.mem_append, List.mem_append, List.mem_singleton]
    constructor
    · rintro ((z | z) | z)
      · exact .inl (List.mem_filter.mp z).1
      · exact .inr z
      · exact .inl (List.mem_of_mem_drop z)
    · rintro (z | z)
      · rw [← List.take_append_drop (lowP found x).length found] at z
        rcases List.mem_append.mp z with z | z
        · rw [← e1] at z; exact .inl (.inl z)
        · exact .inr z
      · exact .inl (.inr z)
  refine ⟨⟨fun y hy => ?_, fun y hy => ?_, ?_⟩, mem, fun _ => ?_⟩
  · rcases (mem y).mp hy with z | z
    · exact h.ok y z
    · rw [z]; exact hx
  · rcases (mem y).mp hy with z | z
    · exact h.sz y z
    · rw [z]; exact sx
  · have lowlt : ∀ y ∈ lowP found x, ltP y x := fun y hy => of_decide_eq_true (List.mem_filter.mp hy).2
    have dgt : ∀ y ∈ found.drop (lowP found x).length, ltP x y := fun y hy => by
      have my := List.mem_of_mem_drop hy
      rcases lt_tri hx (h.ok y my) with z | z | z
      · exact z
      · rw [z] at m; exact absurd my m
      · exact absurd z (e2 y hy)
    refine List.pairwise_append.mpr ⟨List.pairwise_append.mpr ⟨h.asc.sublist List.filter_sublist, List.pairwise_singleton _ _, fun y hy z hz => ?_⟩, h.asc.sublist (List.drop_sublist _ _), fun y hy z hz => ?_⟩
    · rw [List.mem_singleton.mp hz]; exact lowlt y hy
    · rcases List.mem_append.mp hy with q | q
      · exact lt_trans (h.ok y (List.mem_filter.mp q).1).pos hx.pos (h.ok z (List.mem_of_mem_drop hz)).pos (lowlt y q) (dgt z hz)
      · rw [List.mem_singleton.mp q]; exact dgt z hz
  · have := congrArg List.length e1
    rw [List.length_take] at this
    simp only [List.length_append, List.length_singleton, List.length_drop]
    omega
theorem asc_fold {b : Nat} : ∀ (l : List Pt) (acc : List Pt), PtsOk b acc → (∀ x ∈ l, PtOk x ∧ Sz b x) → PtsOk b (l.foldl insP acc) ∧ (∀ y, y ∈ l.foldl insP acc ↔ y ∈ acc ∨ y ∈ l) ∧ (l.Nodup → (∀ x ∈ l, x ∉ acc) → (l.foldl insP acc).length = acc.length + l.length) ∧ (l.foldl insP acc).length ≤ acc.length + l.length
  | [], acc, h, _ => ⟨h, fun y => by simp, fun _ _ => by simp, by simp⟩
  | x :: l, acc, h, hl => by
    obtain ⟨ox, sx⟩ := hl x (by simp)
    obtain ⟨i1, i2, i3⟩ := ins_ok h ox sx
    obtain ⟨a1, a2, a3, a4⟩ := asc_fold l (insP acc x) i1 fun y hy => hl y (by simp [hy])
    refine ⟨a1, fun y => ?_, fun nd no => ?_, ?_⟩
    · rw [List.foldl_cons, a2, i2]; simp; constructor
      · rintro ((z | z) | z)
        · exact .inl z
        · exact .inr (.inl z)
        · exact .inr (.inr z)
      · rintro (z | z | z)
        · exact .inl (.inl z)
        · exact .inl (.inr z)
        · exact .inr z
    · obtain ⟨n1, n2⟩ := List.nodup_cons.mp nd
      rw [List.foldl_cons, a3 n2 fun y hy z => ?_, i3 (no x (by simp)), List.length_cons]
      · omega
      · rcases (i2 y).mp z with q | q
        · exact no y (by simp [hy]) q
        · rw [q] at hy; exact n1 hy
    · rw [List.foldl_cons, List.length_cons]
      have : (insP acc x).length ≤ acc.length + 1 := by
        by_cases m : x ∈ acc
        · unfold insP; rw [if_pos m]; omega
        · rw [i3 m]; omega
      omega
theorem asc_ok {b : Nat} {l : List Pt} (h : ∀ x ∈ l, PtOk x ∧ Sz b x) : PtsOk b (ascP l) := (asc_fold l [] .nil h).1
theorem asc_mem {b : Nat} {l : List Pt} (h : ∀ x ∈ l, PtOk x ∧ Sz b x) (y : Pt) : y ∈ ascP l ↔ y ∈ l := by
  have := (asc_fold l [] .nil h).2.1 y
  simpa [ascP] using this
theorem asc_len {b : Nat} {l : List Pt} (h : ∀ x ∈ l, PtOk x ∧ Sz b x) (nd : l.Nodup) : (ascP l).length = l.length := by
  have := (asc_fold l [] .nil h).2.2.1 nd (by simp)
  simpa [ascP] using this
theorem asc_le {b : Nat} {l : List Pt} (h : ∀ x ∈ l, PtOk x ∧ Sz b x) : (ascP l).length ≤ l.length := by
  have := (asc_fold l [] .nil h).2.2.2
  simpa [ascP] using this
theorem asc_ext : ∀ {l m : List Pt}, (∀ x ∈ l, PtOk x) → Asc l → Asc m → (∀ y, y ∈ l ↔ y ∈ m) → l = m
  | [], [], _, _, _, _ => rfl
  | [], y :: m, _, _, _, h => by have := (h y).mpr (by simp); simp at this
  | x :: l, [], _, _, _, h => by have := (h x).mp (by simp); simp at this
  | x :: l, y :: m, ok, h1, h2, h => by
    obtain ⟨a1, a2⟩ := List.pairwise_cons.mp h1
    obtain ⟨b1, b2⟩ := List.pairwise_cons.mp h2
    have e : x = y := by
      by_cases e : x = y
      · exact e
      have m1 : x ∈ m := by
        rcases List.mem_cons.mp ((h x).mp (by simp)) with z | z
        · exact absurd z e
        · exact z
      have m2 : y ∈ l := by
        rcases List.mem_cons.mp ((h y).mpr (by simp)) with z | z
        · exact absurd z.symm e
        · exact z
      exact absurd (b1 x m1) (lt_asymm (a1 y m2))
    subst e
    congr 1
    refine asc_ext (fun z hz => ok z (by simp [hz])) a2 b2 fun z => ?_
    have q := h z
    simp only [List.mem_cons] at q
    constructor
    · intro hz
      rcases q.mp (.inr hz) with w | w
      · exact absurd w.symm (lt_ne (a1 z hz))
      · exact w
    · intro hz
      rcases q.mpr (.inr hz) with w | w
      · exact absurd w.symm (lt_ne (b1 z hz))
      · exact w
theorem asc_self {b : Nat} {l : List Pt} (h : PtsOk b l) : ascP l = l :=
  have hx : ∀ x ∈ l, PtOk x ∧ Sz b x := fun x m => ⟨h.ok x m, h.sz x m⟩
  asc_ext (asc_ok hx).ok (asc_ok hx).asc h.asc (asc_mem hx)
theorem less_le {l : List Pt} {y : Pt} : lessN l y ≤ l.length := List.length_filter_le _ _
/-- what lies in a gap -/
theorem less_gap {b : Nat} {l : List Pt} {y : Pt} (hl : PtsOk b l) (hy : PtOk y) : (∀ j x, j < lessN l y → l[j]? = some x → ltP x y) ∧ ∀ j x, lessN l y ≤ j → l[j]? = some x → ¬ ltP x y := by
  have e : (lowP l y).length = lessN l y := rfl
  obtain ⟨h1, h2⟩ := low_take hl hy
  rw [e] at h1 h2
  refine ⟨fun j x hj hx => ?_, fun j x hj hx => h2 x ?_⟩
  · have : x ∈ lowP l y := by rw [h1]; exact List.mem_of_getElem? (i := j) (by rw [List.getElem?_take_of_lt hj]; exact hx)
    exact of_decide_eq_true (List.mem_filter.mp this).2
  · exact List.mem_of_getElem? (i := j - lessN l y) (by rw [List.getElem?_drop]; rw [show lessN l y + (j - lessN l y) = j by omega]; exact hx)
theorem less_spread {l : List Pt} {b gap n i : Nat} (hl : PtsOk b l) (hg : gap ≤ l.length) (hn : n < 1000) (hi : i < n) : lessN l (spreadI l gap n i) = gap := by
  obtain ⟨_, _, h1, h2⟩ := spread_at hl hg hn hi
  exact lessN_eq hg h1 fun j x hj hx => lt_asymm (h2 j x hj hx)

/-! ### the ends of a move -/
def gapN (ps fs : List Pt) (g : Nat) : Nat := (fs.filter fun x => decide (lessN ps x = g)).length
def gapsP (ps news fs : List Pt) (k : Nat) : List Pt := (List.range k).flatMap fun g => spreadP news g (gapN ps fs g)
def endsP (olds news fs : List Pt) : List Pt × List Pt := (ascP (olds ++ fs), ascP (news ++ gapsP olds news fs (olds.length + 1)))
theorem gapN_sum (ps : List Pt) (k : Nat) : ∀ (fs : List Pt), (∀ x ∈ fs, lessN ps x < k) → ((List.range k).map (gapN ps fs)).sum = fs.length
  | [], _ => by
    have : (List.range k).map (gapN ps []) = List.replicate k 0 := by
      apply List.ext_getElem
      · simp
      · intro i h1 h2; simp [gapN]
    rw [this]; simp
  | x :: fs, h => by
    have ih := gapN_sum ps k fs fun y hy => h y (by simp [hy])
    have hx := h x (by simp)
    have key : ∀ (n : Nat), ((List.range n).map (gapN ps (x :: fs))).sum = ((List.range n).map (gapN ps fs)).sum + if lessN ps x < n then 1 else 0 := by
      intro n
      induction n with
      | zero => simp
      | succ n ihn =>
        rw [List.range_succ, List.map_append, List.map_append, List.sum_append, List.sum_append, ihn]
        have e : gapN ps (x :: fs) n = gapN ps fs n + if lessN ps x = n then 1 else 0 := by
          unfold gapN
          by_cases z : lessN ps x = n
          · rw [List.filter_cons_of_pos (by simp [z]), if_pos z, List.length_cons]
          · rw [List.filter_cons_of_neg (by simp [z]), if_neg z, Nat.add_zero]
        simp only [List.map_cons, List.map_nil, List.sum_cons, List.sum_nil, e]
        by_cases z1 : lessN ps x = n
        · rw [if_pos z1, if_neg (by omega), if_pos (by omega)]; omega
        · by_cases z2 : lessN ps x < n
          · rw [if_neg z1, if_pos z2, if_pos (by omega)]; omega
          · rw [if_neg z1, if_neg z2, if_neg (by omega)]; omega
    rw [key, ih, if_pos hx, List.length_cons]
theorem gapN_le (ps fs : List Pt) (g : Nat) : gapN ps fs g ≤ fs.length := List.length_filter_le _ _
theorem gaps_len (ps news fs : List Pt) (k : Nat) : (gapsP ps news fs k).length = ((List.range k).map (gapN ps fs)).sum := by
  unfold gapsP
  rw [List.length_flatMap]
  congr 1
  apply List.map_congr_left
  intro g _
  simp [spreadP]
structure EndsOk (bo b : Nat) (olds news fs : List Pt) : Prop where
  o1 : PtsOk bo (endsP olds news fs).1
  m1 : ∀ y, y ∈ (endsP olds news fs).1 ↔ y ∈ olds ∨ y ∈ fs
  o2 : PtsOk (gB b) (endsP olds news fs).2
  m2 : ∀ y ∈ news, y ∈ (endsP olds news fs).2
  len : (endsP olds news fs).1.length = (endsP olds news fs).2.length
  lenV : (endsP olds news fs).1.length = olds.length + fs.length
theorem gaps_ok {b : Nat} {ps news fs : List Pt} {k : Nat} (hn : PtsOk b news) (hk : k ≤ news.length + 1) (hf : fs.length < 1000) : Asc (gapsP ps news fs k) ∧ ∀ y ∈ gapsP ps news fs k, PtOk y ∧ Sz (gB b) y ∧ y ∉ news := by
  have mem : ∀ y ∈ gapsP ps news fs k, ∃ g i, g < k ∧ i < gapN ps fs g ∧ y = spreadI news g (gapN ps fs g) i := fun y hy => by
    obtain ⟨g, hg, hy⟩ := List.mem_flatMap.mp hy
    obtain ⟨i, hi, e⟩ := spread_mem hy
    exact ⟨g, i, List.mem_range.mp hg, hi, e⟩
  refine ⟨?_, fun y hy => ?_⟩
  · unfold gapsP Asc
    rw [List.pairwise_flatMap]
    refine ⟨fun g hg => spread_asc hn (by have := List.mem_range.mp hg; omega), ?_⟩
    refine List.Pairwise.imp_of_mem (fun {g g'} hg hg' hlt x hx y hy => ?_) List.pairwise_lt_range
    have hg := List.mem_range.mp hg
    have hg' := List.mem_range.mp hg'
    obtain ⟨i, hi, rfl⟩ := spread_mem hx
    obtain ⟨j, hj, rfl⟩ := spread_mem hy
    have c1 := gapN_le ps fs g
    have c2 := gapN_le ps fs g'
    obtain ⟨o1, _, _, a2⟩ := spread_at hn (gap := g) (n := gapN ps fs g) (i := i) (by omega) (by omega) hi
    obtain ⟨o2, _, b1, _⟩ := spread_at hn (gap := g') (n := gapN ps fs g') (i := j) (by omega) (by omega) hj
    have hz := atP_some (l := news) (i := g) (by omega)
    exact lt_trans o1.pos (hn.ok _ (List.mem_of_getElem? hz)).pos o2.pos (a2 g _ (Nat.le_refl _) hz) (b1 g _ hlt hz)
  · obtain ⟨g, i, hg, hi, rfl⟩ := mem y hy
    have c1 := gapN_le ps fs g
    obtain ⟨o1, s1, a1, a2⟩ := spread_at hn (gap := g) (n := gapN ps fs g) (i := i) (by omega) (by omega) hi
    refine ⟨o1, s1, fun m => ?_⟩
    obtain ⟨j, hj⟩ := List.getElem?_of_mem m
    by_cases z : j < g
    · exact lt_irrefl _ (a1 j _ z hj)
    · exact lt_irrefl _ (a2 j _ (by omega) hj)
theorem ends_ok {bo b : Nat} {olds news fs : List Pt} (ho : PtsOk bo olds) (hn : PtsOk b news) (hl : olds.length = news.length) (hf : ∀ x ∈ fs, PtOk x ∧ Sz bo x) (nd : fs.Nodup) (no : ∀ x ∈ fs, x ∉ olds) (hc : fs.length < 1000) : EndsOk bo b olds news fs := by
  have all1 : ∀ x ∈ olds ++ fs, PtOk x ∧ Sz bo x := fun x hx => by
    rcases List.mem_append.mp hx with z | z
    · exact ⟨ho.ok x z, ho.sz x z⟩
    · exact hf x z
  obtain ⟨g1, g2⟩ := gaps_ok (ps := olds) (fs := fs) (k := olds.length + 1) hn (by omega) hc
  have bb : b ≤ gB b := by unfold gB; omega
  have all2 : ∀ x ∈ news ++ gapsP olds news fs (olds.length + 1), PtOk x ∧ Sz (gB b) x := fun x hx => by
    rcases List.mem_append.mp hx with z | z
    · exact ⟨hn.ok x z, (hn.sz x z).mono bb⟩
    · exact ⟨(g2 x z).1, (g2 x z).2.1⟩
  have nd1 : (olds ++ fs).Nodup := List.nodup_append.mpr ⟨ho.asc.nodup, nd, fun x hx y hy e => no y hy (e ▸ hx)⟩
  have nd2 : (news ++ gapsP olds news fs (olds.length + 1)).Nodup := List.nodup_append.mpr ⟨hn.asc.nodup, g1.nodup, fun x hx y hy e => (g2 y hy).2.2 (e ▸ hx)⟩
  have l1 : (endsP olds news fs).1.length = olds.length + fs.length := by
    show (ascP _).length = _
    rw [asc_len all1 nd1, List.length_append]
  refine ⟨asc_ok all1, fun y => ?_, asc_ok all2, fun y hy => ?_, ?_, l1⟩
  · exact (asc_mem all1 y).trans List.mem_append
  · exact (asc_mem all2 y).mpr (List.mem_append.mpr (.inl hy))
  · rw [l1]
    show _ = (ascP _).length
    rw [asc_len all2 nd2, List.length_append, gaps_len, gapN_sum olds _ fs fun x _ => Nat.lt_succ_of_le less_le]
    omega
/-! ### a point led -/
def leadP (olds news : List Pt) (x : Pt) : Pt := atP news (olds.idxOf x)
theorem lead_at {olds news : List Pt} {x : Pt} (hx : x ∈ olds) (hl : olds.length = news.length) : olds.idxOf x < olds.length ∧ olds[olds.idxOf x]? = some x ∧ news[olds.idxOf x]? = some (leadP olds news x) := by
  have h1 : olds.idxOf x < olds.length := List.idxOf_lt_length_of_mem hx
  refine ⟨h1, ?_, atP_some (by omega)⟩
  rw [List.getElem?_eq_getElem h1, List.getElem_idxOf]
theorem lead_ok {bo b : Nat} {olds news ps : List Pt} (ho : PtsOk bo olds) (hn : PtsOk b news) (hl : olds.length = news.length) (hp : Asc ps) (hs : ∀ x ∈ ps, x ∈ olds) : PtsOk b (ps.map (leadP olds news)) := by
  have mem : ∀ x ∈ ps, leadP olds news x ∈ news := fun x hx => List.mem_of_getElem? (lead_at (hs x hx) hl).2.2
  refine ⟨fun y hy => ?_, fun y hy => ?_, ?_⟩
  · obtain ⟨x, hx, rfl⟩ := List.mem_map.mp hy; exact hn.ok _ (mem x hx)
  · obtain ⟨x, hx, rfl⟩ := List.mem_map.mp hy; exact hn.sz _ (mem x hx)
  · unfold Asc
    rw [List.pairwise_map]
    refine List.Pairwise.imp_of_mem (fun {x y} hx hy hxy => ?_) hp
    obtain ⟨a1, a2, a3⟩ := lead_at (hs x hx) hl
    obtain ⟨b1, b2, b3⟩ := lead_at (hs y hy) hl
    have lt : olds.idxOf x < olds.idxOf y := by
      rcases Nat.lt_trichotomy (olds.idxOf x) (olds.idxOf y) with z | z | z
      · exact z
      · rw [z, b2] at a2; cases a2; exact absurd hxy (lt_irrefl _)
      · exact absurd hxy (lt_asymm (asc_get ho.asc z b2 a2))
    exact asc_get hn.asc lt a3 b3
end G
set_option Elab.async false
set_option linter.all false
set_option maxRecDepth 100000
/-! comprehensions without a test, each element told by its number -/
namespace G
open PySem L2 LamX PyProof.Rows
/-- what the steps keep -/
structure KR (R : Hp → Hp → Prop) (I : Hp → Prop) : Prop where
  refl : ∀ H, R H H
  trans : ∀ {H H1 H2}, R H H1 → R H1 H2 → R H H2
  at_ : ∀ {H H1 : Hp} {p : Addr} {o : HO}, R H H1 → H p = none → R H (upd H1 p o)
  lst : ∀ {H H' : Hp} {p : Addr} {xs : List V}, R H H' → H p = some (.lst xs) → H' p = some (.lst xs)
  tk : ∀ {H H'}, R H H' → Tk H H'
  inew : ∀ {H : Hp} {p : Addr} {o : HO}, I H → H p = none → I (upd H p o)
  ilst : ∀ {H : Hp} {p : Addr} {xs ys : List V}, I H → H p = some (.lst xs) → I (upd H p (.lst ys))
theorem kr0 : KR (Kp M0) fun _ => True := ⟨fun H => Kp.refl H, fun a b => a.trans b, fun a b => a.at b, fun a b => a _ _ b fun z => z, fun a => Tk.of0 a, fun _ _ => trivial, fun _ _ => trivial⟩
theorem krT (T : List (Addr × Str)) : KR (Kt M0) (Tabs T) := ⟨fun H => Kt.refl H, fun a b => a.trans b, fun a b => a.at b, fun a b => a.lst b fun z => z, fun a => a.tk0, fun a b => tabs_new a b, fun a b => tabs_lst a b⟩
section
variable {K : PySem.W.Frag} {s : Nat} {te : TE} {σ : L2.St} {H1 : Hp} {Q : VK} {R : Hp → Hp → Prop} {I : Hp → Prop}
def RowE (K : PySem.W.Frag) (R : Hp → Hp → Prop) (I : Hp → Prop) (H1 : Hp) (D : Addr) (es : List PyData) (i : Nat) (H : Hp) : Prop := ∃ vs, R H1 H ∧ I H ∧ H D = some (.lst vs) ∧ DpAll K H vs (es.take i)
theorem turnE {es : List PyData} {i : Nat} {x : V} {e : PyData} {D : Addr} {H : Hp} {Nx : Hp → Prop} (kr : KR R I) (hD : H1 D = none) (hn : es.length < sizeLine) (ht : tupDs es = true) (hi : es[i]? = some e) (hp : RowE K R I H1 D es i H)
    (hte : ∀ Q' : VK, (∀ y H4, R H H4 → I H4 → Dp K H4 y e → Q' y H4) → te ((wipe σ [s]).set s (some x)) H Q') (hN : ∀ H', RowE K R I H1 D es (i + 1) H' → Nx H') :
    gName s x (wipe σ [s]) H fun σ2 H2 => wipe σ2 [s] = wipe σ [s] ∧ tYes σ2 H2 fun c H3 =>
        if c = true then te σ2 H3 fun y H4 => ∃ acc, H4 D = some (.lst acc) ∧ acc.length < sizeLine ∧ Nx (upd H4 D (.lst (acc ++ [y]))) else Nx H3 := by
  obtain ⟨vs, k, ih, hd, ha⟩ := hp
  refine ⟨wipe1 σ s _, ?_⟩
  show te _ H _
  refine hte _ fun y H4 k4 i4 d4 => ?_
  have hd4 : H4 D = some (.lst vs) := kr.lst k4 hd
  have lt := (List.getElem?_eq_some_iff.mp hi).1
  have vl : vs.length = i := by rw [dps_len ha, List.length_take]; omega
  have hdu : tupDs (es.take i) = true := tupDs_all.mpr fun z hz => tupDs_all.mp ht z (List.mem_of_mem_take hz)
  refine ⟨vs, hd4, by omega, hN _ ⟨vs ++ [y], kr.at_ (kr.trans k k4) hD, kr.ilst i4 hd4, upd_same, ?_⟩⟩
  rw [take_snoc hi]
  exact dps_app (dps_tk ((kr.tk k4).trans (Tk.lst hd4)) _ _ hdu ha) (dps_one (dp_tk (Tk.lst hd4) _ y (tupDs_all.mp ht e (List.mem_of_getElem? hi)) d4))
theorem lcLe {a : Addr} {xs : List V} (kr : KR R I) (ds es : List PyData) (i1 : I H1) (hn : es.length < sizeLine) (hl : ds.length = es.length) (hx : ∀ H, R H1 H → I H → SqL K H a xs) (hxs : DpAll K H1 xs ds) (hdu : tupDs ds = true) (ht : tupDs es = true)
    (hte : ∀ (i : Nat) (d e : PyData) (x : V) (H : Hp), ds[i]? = some d → es[i]? = some e → Dp K H x d → R H1 H → I H → ∀ Q' : VK, (∀ y H4, R H H4 → I H4 → Dp K H4 y e → Q' y H4) → te ((σ.set s none).set s (some x)) H Q')
    (hq : ∀ D H vs, H1 D = none → R H1 H → I H → H D = some (.lst vs) → DpAll K H vs es → Q (.ref D) H) : LcL K s tYes te σ Q (.ref a) H1 := by
  refine ⟨a, rfl, ⟨xs, hx H1 (kr.refl H1) i1⟩, fun D hD => ?_⟩
  have xl := dps_len hxs
  refine lc_list (xs := xs) (Qd := fun H => Q (.ref D) H) (RowE K R I H1 D es) ⟨[], kr.at_ (kr.refl H1) hD, kr.inew i1 hD, upd_same, by rw [List.take_zero]; exact .nil⟩ (fun i H _ ⟨_, k, ih, _, _⟩ => hx H k ih) (fun i x H hi hp => ?_) (fun H hp => ?_)
  · obtain ⟨vs, k, ih, hd, ha⟩ := id hp
    obtain ⟨d, e1, e2⟩ := dps_get (dps_tk (kr.tk k) _ _ hdu hxs) hi
    obtain ⟨e, e3⟩ : ∃ e, es[i]? = some e := ⟨_, List.getElem?_eq_getElem (by have := (List.getElem?_eq_some_iff.mp e1).1; omega)⟩
    exact turnE kr hD hn ht e3 hp (hte i d e x H e1 e3 e2 k ih) fun H' z => z
  · obtain ⟨vs, k, ih, hd, ha⟩ := hp
    rw [List.take_of_length_le (by omega)] at ha
    exact hq D H vs hD k ih hd ha
theorem lcTe {a : Addr} {xs : List V} (kr : KR R I) (ds es : List PyData) (i1 : I H1) (hn : es.length < sizeLine) (hl : ds.length = es.length) (hx : SqT K H1 a xs) (hxs : DpAll K H1 xs ds) (hdu : tupDs ds = true) (ht : tupDs es = true)
    (hte : ∀ (i : Nat) (d e : PyData) (x : V) (H : Hp), ds[i]? = some d → es[i]? = some e → Dp K H x d → R H1 H → I H → ∀ Q' : VK, (∀ y H4, R H H4 → I H4 → Dp K H4 y e → Q' y H4) → te ((σ.set s none).set s (some x)) H Q')
    (hq : ∀ D H vs, H1 D = none → R H1 H → I H → H D = some (.lst vs) → DpAll K H vs es → Q (.ref D) H) : LcT K s tYes te σ Q (.ref a) H1 := by
  refine ⟨a, rfl, ⟨xs, hx⟩, fun D hD => ?_⟩
  have xl := dps_len hxs
  refine lc_tup (xs := xs) (Qd := fun H => Q (.ref D) H) (RowE K R I H1 D es) ⟨[], kr.at_ (kr.refl H1) hD, kr.inew i1 hD, upd_same, by rw [List.take_zero]; exact .nil⟩ (fun i H _ ⟨_, k, ih, _, _⟩ => sqT_tk (kr.tk k) hx) (fun i x H hi hp => ?_) (fun H hp => ?_)
  · obtain ⟨vs, k, ih, hd, ha⟩ := id hp
    obtain ⟨d, e1, e2⟩ := dps_get (dps_tk (kr.tk k) _ _ hdu hxs) hi
    obtain ⟨e, e3⟩ : ∃ e, es[i]? = some e := ⟨_, List.getElem?_eq_getElem (by have := (List.getElem?_eq_some_iff.mp e1).1; omega)⟩
    exact turnE kr hD hn ht e3 hp (hte i d e x H e1 e3 e2 k ih) fun H' z => z
  · obtain ⟨vs, k, ih, hd, ha⟩ := hp
    rw [List.take_of_length_le (by omega)] at ha
    exact hq D H vs hD k ih hd ha
end
/-! ### x in t, t a tuple of data -/
section
variable {X : Cx}
def rInDT (K : PySem.W.Frag) (neg : Bool) : R2 := fun x y H Q => ∃ d ds, L2.Dp K H x d ∧ L2.Dp K H y (.tuple ds) ∧ SeqAt.shaped d = true ∧ SeqAt.shaped (.tuple ds) = true ∧ Q (.bl (if neg = true then !ds.any fun z => PyData.eqv z d else ds.any fun z => PyData.eqv z d)) H
theorem k_indexD (K : PySem.W.Frag) (hu : X.A.units + 65 < cLine) (h : X.K = K := by rfl) : MtR X "list.index" (rIndexD K) := h ▸ mt_indexD hu
theorem k_inDT (K : PySem.W.Frag) (hu : X.A.units + 65 < cLine) (h : X.K = K := by rfl) : OpR X (compareOp .In) (rInDT K false) := by
  subst h
  intro pins s σ H x y v u Q I rx ry w
  obtain ⟨d, ds, hd, he, sd, se, q⟩ := w
  obtain ⟨as, r1⟩ := L2.Dp.reads I d x v hd rx
  obtain ⟨bs, r2⟩ := L2.Dp.reads I (.tuple ds) y u he ry
  exact SeqAt.in_tuple_reads r2 r1 (SeqAt.canLay_of_shaped se) (SeqAt.canLay_of_shaped sd) (room_in_shaped sd hu) ⟨.bl _, H, I, rfl, q⟩
theorem k_notInDT (K : PySem.W.Frag) (hu : X.A.units + 65 < cLine) (h : X.K = K := by rfl) : OpR X (compareOp .NotIn) (rInDT K true) := by
  subst h
  intro pins s σ H x y v u Q I rx ry w
  obtain ⟨d, ds, hd, he, sd, se, q⟩ := w
  obtain ⟨as, r1⟩ := L2.Dp.reads I d x v hd rx
  obtain ⟨bs, r2⟩ := L2.Dp.reads I (.tuple ds) y u he ry
  exact SeqAt.notIn_tuple_reads r2 r1 (SeqAt.canLay_of_shaped se) (SeqAt.canLay_of_shaped sd) (room_in_shaped sd hu) ⟨.bl _, H, I, rfl, q⟩
end
end G
set_option Elab.async false
set_option linter.all false
set_option maxRecDepth 100000
/-! values: words, points, rows, sets; plain mathematics -/
namespace G
open PySem L2
inductive Vl where
  | word (s : Str) : Vl
  | pt (x : Pt) : Vl
  | row (vs : List Vl) : Vl
  | set (ps : List Pt) (ms : List Vl) : Vl
mutual
def vlD : Vl → PyData
  | .word s => .str s
  | .pt x => ptD x
  | .row vs => .tuple (.str "row" :: vlDs vs)
  | .set ps ms => .tuple [.str "set", .tuple (ps.map ptD), .tuple (vlDs ms)]
def vlDs : List Vl → List PyData
  | [] => []
  | v :: vs => vlD v :: vlDs vs
end
theorem vlDs_map : ∀ vs : List Vl, vlDs vs = vs.map vlD
  | [] => rfl
  | v :: vs => by rw [vlDs, List.map_cons, vlDs_map vs]
mutual
theorem vlD_tup : ∀ v : Vl, tupD (vlD v) = true
  | .word s => rfl
  | .pt x => rfl
  | .row vs => by simp only [vlD, tupD, tupDs, Bool.true_and]; exact vlDs_tup vs
  | .set ps ms => by simp only [vlD, tupD, tupDs, Bool.true_and, Bool.and_true]; rw [ptDs_tup, vlDs_tup]; rfl
theorem vlDs_tup : ∀ vs : List Vl, tupDs (vlDs vs) = true
  | [] => rfl
  | v :: vs => by simp only [vlDs, tupDs, vlD_tup v, vlDs_tup vs, Bool.and_self]
end
theorem vls_tup (vs : List Vl) : tupDs (vs.map vlD) = true := by rw [← vlDs_map]; exact vlDs_tup vs
mutual
/-- how many things -/
def vw : Vl → Nat
  | .word _ => 1
  | .pt _ => 1
  | .row vs => 1 + vws vs
  | .set ps ms => 1 + ps.length + vws ms
def vws : List Vl → Nat
  | [] => 0
  | v :: vs => vw v + vws vs
end
theorem vws_app (a b : List Vl) : vws (a ++ b) = vws a + vws b := by
  induction a with
  | nil => simp [vws]
  | cons x a ih => simp only [List.cons_append, vws, ih]; omega
theorem vws_perm {a b : List Vl} (h : a.Perm b) : vws a = vws b := by
  induction h with
  | nil => rfl
  | cons x _ ih => simp only [vws, ih]
  | swap x y l => simp only [vws]; omega
  | trans _ _ i1 i2 => exact i1.trans i2
theorem vw_mem {v : Vl} {vs : List Vl} (h : v ∈ vs) : vw v ≤ vws vs := by
  induction vs with
  | nil => simp at h
  | cons x l ih =>
    rcases List.mem_cons.mp h with rfl | h
    · simp only [vws]; omega
    · have := ih h; simp only [vws]; omega
theorem vw_pos : ∀ v : Vl, 1 ≤ vw v
  | .word _ => by simp [vw]
  | .pt _ => by simp [vw]
  | .row _ => by rw [vw]; omega
  | .set _ _ => by rw [vw]; omega
theorem vws_len : ∀ vs : List Vl, vs.length ≤ vws vs
  | [] => by simp
  | v :: vs => by have := vws_len vs; have := vw_pos v; simp only [vws, List.length_cons]; omega
mutual
def supV : Vl → List Pt
  | .word _ => []
  | .pt x => [x]
  | .row vs => ascP (supVs vs)
  | .set ps _ => ps
def supVs : List Vl → List Pt
  | [] => []
  | v :: vs => supV v ++ supVs vs
end
theorem supVs_app (a b : List Vl) : supVs (a ++ b) = supVs a ++ supVs b := by
  induction a with
  | nil => simp [supVs]
  | cons x a ih => simp only [List.cons_append, supVs, ih, List.append_assoc]
theorem supVs_mem {y : Pt} : ∀ {vs : List Vl}, y ∈ supVs vs ↔ ∃ v ∈ vs, y ∈ supV v
  | [] => by simp [supVs]
  | v :: vs => by simp [supVs, supVs_mem (vs := vs)]
/-! ### how they are written -/
def ptText (x : Pt) : Str := if x.2 = 1 then PyData.shown (.int x.1) else PyData.shown (.int x.1) ++ "/" ++ PyData.shown (.int x.2)
mutual
def textV : Vl → Str
  | .word s => s
  | .pt x => ptText x
  | .row vs => "<" ++ Txt.join " " (textVs vs) ++ ">"
  | .set ps ms => "{" ++ Txt.join " " (ps.map ptText) ++ "|" ++ Txt.join " " (textVs ms) ++ "}"
def textVs : List Vl → List Str
  | [] => []
  | v :: vs => textV v :: textVs vs
end
theorem textVs_map : ∀ vs : List Vl, textVs vs = vs.map textV
  | [] => rfl
  | v :: vs => by rw [textVs, List.map_cons, textVs_map vs]
/-- sorted by texts -/
def sortZ (l : List (Vl × Str)) : List (Vl × Str) := l.mergeSort (PySem.W.dataLe false fun p => PyData.str p.2)
def sortV (l : List Vl) : List Vl := (sortZ (l.map fun v => (v, textV v))).map (·.1)
theorem sortV_perm (l : List Vl) : (sortV l).Perm l := by
  have p : (sortZ (l.map fun v => (v, textV v))).Perm (l.map fun v => (v, textV v)) := List.mergeSort_perm ..
  have q := p.map (·.1)
  rw [List.map_map] at q
  have e : ((fun x : Vl × Str => x.1) ∘ fun v => (v, textV v)) = id := rfl
  rw [e, List.map_id] at q
  exact q
/-- the sorted values are the data of the sorted objects -/
theorem sorted_dps {K : PySem.W.Frag} {H : Hp} {xs out : List V} {vs : List Vl} (hx : DpAll K H xs (vs.map vlD)) (h : SortedBy xs (vs.map textV) out) : DpAll K H out ((sortV vs).map vlD) := by
  have hl : xs.length = vs.length := by rw [dps_len hx, List.length_map]
  let leZ : V × Vl → V × Vl → Bool := fun p q => PySem.W.dataLe false (fun v : Vl => PyData.str (textV v)) p.2 q.2
  have e1 : xs.zip (vs.map textV) = (xs.zip vs).map (fun p : V × Vl => (p.1, textV p.2)) := by
    rw [List.zip_map_right]; rfl
  have o1 : out = ((xs.zip vs).mergeSort leZ).map (·.1) := by
    rw [show out = _ from h, e1, ← List.map_mergeSort (r := leZ) (f := fun p : V × Vl => (p.1, textV p.2)) (s := PySem.W.dataLe false fun p : V × Str => PyData.str p.2) (fun a _ b _ => rfl), List.map_map]; rfl
  have o2 : sortV vs = ((xs.zip vs).mergeSort leZ).map (·.2) := by
    have e2 : vs.map (fun v => (v, textV v)) = (xs.zip vs).map (fun p : V × Vl => (p.2, textV p.2)) := by
      conv => lhs; rw [← List.map_snd_zip (l₁ := xs) (l₂ := vs) (by omega)]
      rw [List.map_map]; rfl
    unfold sortV sortZ
    rw [e2, ← List.map_mergeSort (r := leZ) (f := fun p : V × Vl => (p.2, textV p.2)) (s := PySem.W.dataLe false fun p : Vl × Str => PyData.str p.2) (fun a _ b _ => rfl), List.map_map]; rfl
  have all : ∀ p ∈ (xs.zip vs).mergeSort leZ, Dp K H p.1 (vlD p.2) := fun p hp => by
    have hp : p ∈ xs.zip vs := List.mem_mergeSort.mp hp
    obtain ⟨i, hi⟩ := List.getElem?_of_mem hp
    obtain ⟨a1, a2⟩ := List.getElem?_zip_eq_some.mp hi
    obtain ⟨d, d1, d2⟩ := dps_get hx a1
    rw [List.getElem?_map, a2] at d1
    cases d1
    exact d2
  rw [o1, o2]
  generalize (xs.zip vs).mergeSort leZ = Z at all
  induction Z with
  | nil => exact .nil
  | cons p Z ih => exact .cons (all p (by simp)) (ih fun q hq => all q (by simp [hq]))
/-! ### values of a law -/
def gN : Nat → Nat → Nat
  | 0, b => b
  | n + 1, b => gN n (gB b)
theorem gN_ge : ∀ (n b : Nat), b ≤ gN n b
  | 0, b => Nat.le_refl b
  | n + 1, b => Nat.le_trans (show b ≤ gB b by unfold gB; omega) (gN_ge n (gB b))
theorem gB_mono {a b : Nat} (h : a ≤ b) : gB a ≤ gB b := by unfold gB; omega
theorem gN_mono : ∀ (n : Nat) {a b : Nat}, a ≤ b → gN n a ≤ gN n b
  | 0, _, _, h => h
  | n + 1, _, _, h => gN_mono n (gB_mono h)
theorem gN_succ : ∀ (n b : Nat), gN n b ≤ gN (n + 1) b := fun n b => gN_mono n (show b ≤ gB b by unfold gB; omega)
/-- letters alone, at least one -/
def wOk (s : Str) : Bool := s.cps.toList ≠ [] && s.cps.toList.all fun c => 97 ≤ c && c ≤ 122
/-- at most n rows and sets within one another; points of at most b bits, those of members of more -/
inductive VOk : Nat → Nat → Vl → Prop
  | word {n b : Nat} {s : Str} : s.length ≤ 8 → PyData.strOk s = true ∧ wOk s = true → VOk n b (.word s)
  | pt {n b : Nat} {x : Pt} : PtOk x → Sz b x → VOk n b (.pt x)
  | row {n b : Nat} {vs : List Vl} : vs ≠ [] → (∀ v ∈ vs, VOk n b v) → VOk (n + 1) b (.row vs)
  | set {n b : Nat} {ps : List Pt} {ms : List Vl} : PtsOk b ps → (∀ m ∈ ms, VOk n (gB b) m) → VOk (n + 1) b (.set ps ms)
theorem VOk.mono {n b : Nat} {v : Vl} (h : VOk n b v) : ∀ {m c : Nat}, n ≤ m → b ≤ c → VOk m c v := by
  induction h with
  | word h o => intro m c _ _; exact .word h o
  | pt h s => intro m c _ hc; exact .pt h (s.mono hc)
  | row h0 h ih =>
    intro m c hm hc
    cases m with
    | zero => omega
    | succ m => exact .row h0 fun v hv => ih v hv (by omega) hc
  | set hp h ih =>
    intro m c hm hc
    cases m with
    | zero => omega
    | succ m => exact .set (hp.mono hc) fun v hv => ih v hv (by omega) (gB_mono hc)
theorem sup_ok {n b : Nat} {v : Vl} (h : VOk n b v) : PtsOk b (supV v) := by
  induction h with
  | word h o => rw [supV]; exact .nil
  | pt h s => rw [supV]; exact ⟨fun y m => by rw [List.mem_singleton.mp m]; exact h, fun y m => by rw [List.mem_singleton.mp m]; exact s, List.pairwise_singleton _ _⟩
  | row h0 h ih =>
    rw [supV]
    refine asc_ok fun y m => ?_
    obtain ⟨v, hv, hy⟩ := supVs_mem.mp m
    exact ⟨(ih v hv).ok y hy, (ih v hv).sz y hy⟩
  | set hp h ih => rw [supV]; exact hp
theorem sups_ok {n b : Nat} {vs : List Vl} (h : ∀ v ∈ vs, VOk n b v) : ∀ y ∈ supVs vs, PtOk y ∧ Sz b y := fun y m => by
  obtain ⟨v, hv, hy⟩ := supVs_mem.mp m
  exact ⟨(sup_ok (h v hv)).ok y hy, (sup_ok (h v hv)).sz y hy⟩
theorem sup_len {n b : Nat} {v : Vl} (h : VOk n b v) : (supV v).length ≤ vw v := by
  induction h with
  | word h o => simp [supV]
  | pt h s => simp [supV, vw]
  | @row n b vs h0 h ih =>
    rw [supV, vw]
    refine Nat.le_trans (asc_le (sups_ok h)) ?_
    have : ∀ l : List Vl, (∀ v ∈ l, (supV v).length ≤ vw v) → (supVs l).length ≤ vws l := by
      intro l
      induction l with
      | nil => intro _; simp [supVs]
      | cons x l il => intro q; have := il (fun v hv => q v (by simp [hv])); have := q x (by simp); simp only [supVs, vws, List.length_append]; omega
    have := this vs ih
    omega
  | set hp h ih => rw [supV, vw]; omega
theorem sups_len {n b : Nat} {vs : List Vl} (h : ∀ v ∈ vs, VOk n b v) : (supVs vs).length ≤ vws vs := by
  induction vs with
  | nil => simp [supVs]
  | cons x l il => have := il (fun v hv => h v (by simp [hv])); have := sup_len (h x (by simp)); simp only [supVs, vws, List.length_append]; omega
/-! ### values led -/
def restP (ps : List Pt) (l : List Pt) : List Pt := l.filter fun x => decide (x ∉ ps)
mutual
def movedV : Vl → List Pt → List Pt → Vl
  | .word s, _, _ => .word s
  | .pt x, olds, news => .pt (leadP olds news x)
  | .row vs, olds, news => .row (movedVs vs olds news)
  | .set ps ms, olds, news => .set (ps.map (leadP olds news)) (sortV (movedMs ms ps (ps.map (leadP olds news))))
def movedVs : List Vl → List Pt → List Pt → List Vl
  | [], _, _ => []
  | v :: vs, olds, news => movedV v olds news :: movedVs vs olds news
def movedMs : List Vl → List Pt → List Pt → List Vl
  | [], _, _ => []
  | m :: ms, ps, qs => movedV m (endsP ps qs (restP ps (supV m))).1 (endsP ps qs (restP ps (supV m))).2 :: movedMs ms ps qs
end
theorem movedVs_map (olds news : List Pt) : ∀ vs : List Vl, movedVs vs olds news = vs.map fun v => movedV v olds news
  | [] => rfl
  | v :: vs => by rw [movedVs, List.map_cons, movedVs_map olds news vs]
theorem movedMs_map (ps qs : List Pt) : ∀ ms : List Vl, movedMs ms ps qs = ms.map fun m => movedV m (endsP ps qs (restP ps (supV m))).1 (endsP ps qs (restP ps (supV m))).2
  | [] => rfl
  | v :: vs => by rw [movedMs, List.map_cons, movedMs_map ps qs vs]
theorem rest_ends {n b bo : Nat} {ps qs : List Pt} {m : Vl} (hp : PtsOk bo ps) (hq : PtsOk b qs) (hl : ps.length = qs.length) (hm : VOk n (gB bo) m) (hw : vw m < 1000) : EndsOk (gB bo) b ps qs (restP ps (supV m)) := by
  have so := sup_ok hm
  refine ends_ok (hp.mono (by unfold gB; omega)) hq hl (fun x hx => ?_) (so.asc.nodup.sublist List.filter_sublist) (fun x hx => ?_) ?_
  · have := (List.mem_filter.mp hx).1
    exact ⟨so.ok x this, so.sz x this⟩
  · exact of_decide_eq_true (List.mem_filter.mp hx).2
  · exact Nat.lt_of_le_of_lt (Nat.le_trans (List.length_filter_le _ _) (sup_len hm)) hw
theorem rest_in {ps l : List Pt} {x : Pt} (h : x ∈ l) : x ∈ ps ∨ x ∈ restP ps l := by
  by_cases z : x ∈ ps
  · exact .inl z
  · exact .inr (List.mem_filter.mpr ⟨h, decide_eq_true z⟩)
theorem moved_ok {n bo : Nat} {v : Vl} (h : VOk n bo v) : ∀ {b c : Nat} {olds news : List Pt}, PtsOk c olds → PtsOk b news → olds.length = news.length → (∀ x ∈ supV v, x ∈ olds) → vw v < 1000 → VOk n b (movedV v olds news) ∧ vw (movedV v olds news) = vw v := by
  induction h with
  | word h o => intro b c olds news _ _ _ _ _; rw [movedV]; exact ⟨.word h o, rfl⟩
  | @pt n bo x h s =>
    intro b c olds news ho hn hl hs _
    rw [movedV]
    have m := List.mem_of_getElem? (lead_at (hs x (by simp [supV])) hl).2.2
    exact ⟨.pt (hn.ok _ m) (hn.sz _ m), rfl⟩
  | @row n bo vs h0 h ih =>
    intro b c olds news ho hn hl hs hw
    rw [movedV, movedVs_map]
    rw [supV] at hs
    rw [vw] at hw
    have each : ∀ v ∈ vs, VOk n b (movedV v olds news) ∧ vw (movedV v olds news) = vw v := fun v hv => by
      refine ih v hv ho hn hl (fun x hx => hs x ((asc_mem (sups_ok h) x).mpr (supVs_mem.mpr ⟨v, hv, hx⟩))) ?_
      have := vw_mem hv; omega
    refine ⟨.row (by simpa using h0) fun u hu => ?_, ?_⟩
    · obtain ⟨v, hv, rfl⟩ := List.mem_map.mp hu
      exact (each v hv).1
    · rw [vw, vw]
      congr 1
      clear hs hw h h0 ih
      induction vs with
      | nil => rfl
      | cons x l il => simp only [List.map_cons, vws]; rw [(each x (by simp)).2, il fun v hv => each v (by simp [hv])]
  | @set n bo ps ms hp h ih =>
    intro b c olds news ho hn hl hs hw
    rw [movedV, movedMs_map]
    rw [supV] at hs
    rw [vw] at hw
    have hq := lead_ok ho hn hl hp.asc hs
    have each : ∀ m ∈ ms, VOk n (gB b) (movedV m (endsP ps (ps.map (leadP olds news)) (restP ps (supV m))).1 (endsP ps (ps.map (leadP olds news)) (restP ps (supV m))).2) ∧ vw (movedV m (endsP ps (ps.map (leadP olds news)) (restP ps (supV m))).1 (endsP ps (ps.map (leadP olds news)) (restP ps (supV m))).2) = vw m := fun m hm => by
      have wm := vw_mem hm
      have e := rest_ends hp hq (by simp) (h m hm) (by omega)
      exact ih m hm e.o1 e.o2 e.len (fun x hx => (e.m1 x).mpr (rest_in hx)) (by omega)
    refine ⟨.set hq fun u hu => ?_, ?_⟩
    · obtain ⟨m, hm, rfl⟩ := List.mem_map.mp ((sortV_perm _).mem_iff.mp hu)
      exact (each m hm).1
    · rw [vw, vw, List.length_map, vws_perm (sortV_perm _)]
      congr 1
      clear hs hw h ih
      induction ms with
      | nil => rfl
      | cons x l il => simp only [List.map_cons, vws]; rw [(each x (by simp)).2, il fun v hv => each v (by simp [hv])]
/-- placed over points -/
def placedV (v : Vl) (points : List Pt) : Vl := movedV v (endsP points points (restP points (supV v))).1 (endsP points points (restP points (supV v))).2
theorem placed_ok {n b bo : Nat} {v : Vl} {points : List Pt} (h : VOk n bo v) (hp : PtsOk b points) (hw : vw v < 1000) : VOk n (gB b) (placedV v points) ∧ vw (placedV v points) = vw v := by
  have so := sup_ok h
  have e : EndsOk (max b bo) b points points (restP points (supV v)) := by
    refine ends_ok (hp.mono (Nat.le_max_left _ _)) hp rfl (fun x hx => ?_) (so.asc.nodup.sublist List.filter_sublist) (fun x hx => ?_) ?_
    · have := (List.mem_filter.mp hx).1
      exact ⟨so.ok x this, (so.sz x this).mono (Nat.le_max_right _ _)⟩
    · exact of_decide_eq_true (List.mem_filter.mp hx).2
    · exact Nat.lt_of_le_of_lt (Nat.le_trans (List.length_filter_le _ _) (sup_len h)) hw
  exact moved_ok h e.o1 e.o2 e.len (fun x hx => (e.m1 x).mpr (rest_in hx)) hw
end G
set_option Elab.async false
set_option linter.all false
set_option maxRecDepth 100000
/-! values as objects -/
namespace G
open PySem L2 PyProof.Rows
theorem kitOne_same (K : PySem.W.Frag) (n : String) : PySem.W.kitOne K (.type n) (.type n) = some true := by
  unfold PySem.W.kitOne
  rw [if_pos (by simp)]
theorem kit_no (K : PySem.W.Frag) {a b : String} (h : (Value.type a == Value.type b) = false) (h2 : PySem.W.kitCls K (.type a) (.type b) = some false) : PySem.W.kitOne K (.type a) (.type b) = some false := by
  unfold PySem.W.kitOne
  rw [if_neg (by rw [h]; simp), h2]
theorem tup_str (K : PySem.W.Frag) : PySem.W.kitOne K (.type "tuple") (.type "str") = some false := kit_no K (by decide) (by kernel_rfl)
theorem str_tup (K : PySem.W.Frag) : PySem.W.kitOne K (.type "str") (.type "tuple") = some false := kit_no K (by decide) (by kernel_rfl)
theorem int_bool (K : PySem.W.Frag) : PySem.W.kitOne K (.type "int") (.type "bool") = some false := kit_no K (by decide) (by kernel_rfl)
theorem tyT {K : PySem.W.Frag} {H : Hp} {a : Addr} {xs : List V} (h : SqT K H a xs) : TyX K H (.ref a) (.type "tuple") := by
  rcases h with (h | ⟨o, h⟩) | ⟨o, its, n, h, c, _⟩
  · exact .base (.tup h)
  · exact .fTuple h
  · exact .kTuple h c
/-- isinstance(v, str) -/
theorem isi_str {K : PySem.W.Frag} {H : Hp} {s : Str} {Q : VK} (q : Q (.bl true) H) : rIsi K [.str s, .ty "str"] H Q := ⟨_, _, _, _, true, rfl, .ty _, .base (.str s), kitOne_same K "str", q⟩
theorem isi_no {K : PySem.W.Frag} {H : Hp} {a : Addr} {xs : List V} {Q : VK} (h : SqT K H a xs) (q : Q (.bl false) H) : rIsi K [.ref a, .ty "str"] H Q := ⟨_, _, _, _, false, rfl, .ty _, tyT h, tup_str K, q⟩
theorem isi_tup {K : PySem.W.Frag} {H : Hp} {a : Addr} {xs : List V} {Q : VK} (h : SqT K H a xs) (q : Q (.bl true) H) : rIsi K [.ref a, .ty "tuple"] H Q := ⟨_, _, _, _, true, rfl, .ty _, tyT h, kitOne_same K "tuple", q⟩
theorem isi_notup {K : PySem.W.Frag} {H : Hp} {s : Str} {Q : VK} (q : Q (.bl false) H) : rIsi K [.str s, .ty "tuple"] H Q := ⟨_, _, _, _, false, rfl, .ty _, .base (.str s), str_tup K, q⟩
theorem isi_int {K : PySem.W.Frag} {H : Hp} {i : Int} {Q : VK} (q : Q (.bl true) H) : rIsi K [.int i, .ty "int"] H Q := ⟨_, _, _, _, true, rfl, .ty _, .base (.int i), kitOne_same K "int", q⟩
theorem isi_nobool {K : PySem.W.Frag} {H : Hp} {i : Int} {Q : VK} (q : Q (.bl false) H) : rIsi K [.int i, .ty "bool"] H Q := ⟨_, _, _, _, false, rfl, .ty _, .base (.int i), int_bool K, q⟩
/-! ### what a value is -/
theorem dv_word {K : PySem.W.Frag} {H : Hp} {v : V} {s : Str} (h : Dp K H v (vlD (.word s))) : v = .str s := by rw [vlD] at h; cases h; rfl
theorem dv_pt {K : PySem.W.Frag} {H : Hp} {v : V} {x : Pt} (h : Dp K H v (vlD (.pt x))) : ∃ a, v = .ref a ∧ SqT K H a [.int x.1, .int x.2] := pt_of (by rw [vlD] at h; exact h)
theorem tpl {H : Hp} {a : Addr} {xs : List V} (h : H a = some (.tup xs)) : H a = some (.tup xs) := h
theorem dv_rowT {K : PySem.W.Frag} {H : Hp} {v : V} {vs : List Vl} (h : Dp K H v (vlD (.row vs))) : ∃ a ws, v = .ref a ∧ H a = some (.tup (.str "row" :: ws)) ∧ DpAll K H ws (vs.map vlD) := by
  rw [vlD, vlDs_map] at h
  cases h with
  | tup hs ha =>
    cases ha with
    | cons h1 t => cases h1; exact ⟨_, _, rfl, hs, t⟩
theorem dv_row {K : PySem.W.Frag} {H : Hp} {v : V} {vs : List Vl} (h : Dp K H v (vlD (.row vs))) : ∃ a ws, v = .ref a ∧ SqT K H a (.str "row" :: ws) ∧ DpAll K H ws (vs.map vlD) := by
  obtain ⟨a, ws, e, q, t⟩ := dv_rowT h
  exact ⟨a, ws, e, sqT_mk q, t⟩
theorem dv_setT {K : PySem.W.Frag} {H : Hp} {v : V} {ps : List Pt} {ms : List Vl} (h : Dp K H v (vlD (.set ps ms))) :
    ∃ a p m pw mw, v = .ref a ∧ H a = some (.tup [.str "set", .ref p, .ref m]) ∧ H p = some (.tup pw) ∧ DpAll K H pw (ps.map ptD) ∧ H m = some (.tup mw) ∧ DpAll K H mw (ms.map vlD) := by
  rw [vlD, vlDs_map] at h
  cases h with
  | tup hs ha =>
    cases ha with
    | cons h1 t =>
      cases h1
      cases t with
      | cons h2 t =>
        cases t with
        | cons h3 t =>
          cases t
          cases h2 with
          | tup s2 a2 =>
            cases h3 with
            | tup s3 a3 => exact ⟨_, _, _, _, _, rfl, hs, s2, a2, s3, a3⟩
theorem dv_set {K : PySem.W.Frag} {H : Hp} {v : V} {ps : List Pt} {ms : List Vl} (h : Dp K H v (vlD (.set ps ms))) :
    ∃ a p m pw mw, v = .ref a ∧ SqT K H a [.str "set", .ref p, .ref m] ∧ SqT K H p pw ∧ DpAll K H pw (ps.map ptD) ∧ SqT K H m mw ∧ DpAll K H mw (ms.map vlD) := by
  obtain ⟨a, p, m, pw, mw, e, q, q1, d1, q2, d2⟩ := dv_setT h
  exact ⟨a, p, m, pw, mw, e, sqT_mk q, sqT_mk q1, d1, sqT_mk q2, d2⟩
theorem dv_mkrow {K : PySem.W.Frag} {H : Hp} {a : Addr} {ws : List V} {vs : List Vl} (h : H a = some (.tup (.str "row" :: ws))) (d : DpAll K H ws (vs.map vlD)) : Dp K H (.ref a) (vlD (.row vs)) := by
  rw [vlD, vlDs_map]; exact .tup h (.cons (.str _) d)
theorem dv_mkset {K : PySem.W.Frag} {H : Hp} {a p m : Addr} {pw mw : List V} {ps : List Pt} {ms : List Vl} (h : H a = some (.tup [.str "set", .ref p, .ref m])) (h1 : H p = some (.tup pw)) (d1 : DpAll K H pw (ps.map ptD)) (h2 : H m = some (.tup mw)) (d2 : DpAll K H mw (ms.map vlD)) : Dp K H (.ref a) (vlD (.set ps ms)) := by
  rw [vlD, vlDs_map]; exact .tup h (.cons (.str _) (.cons (.tup h1 d1) (.cons (.tup h2 d2) .nil)))
theorem dv_tk {K : PySem.W.Frag} {H H' : Hp} {v : V} {V' : Vl} (h : Dp K H v (vlD V')) (t : Tk H H') : Dp K H' v (vlD V') := dp_tk t _ _ (vlD_tup _) h
theorem dvs_tk {K : PySem.W.Frag} {H H' : Hp} {ws : List V} {vs : List Vl} (h : DpAll K H ws (vs.map vlD)) (t : Tk H H') : DpAll K H' ws (vs.map vlD) := dps_tk t _ _ (vls_tup _) h
theorem pts_tk {K : PySem.W.Frag} {H H' : Hp} {ws : List V} {l : List Pt} (h : DpAll K H ws (l.map ptD)) (t : Tk H H') : DpAll K H' ws (l.map ptD) := dps_tk t _ _ (ptDs_tup _) h
/-! ### data that may be compared -/
theorem row_ok : PyData.strOk ("row" : Str) = true := by decide +kernel
theorem set_ok : PyData.strOk ("set" : Str) = true := by decide +kernel
theorem pts_lay : ∀ l : List Pt, PyData.canLayAll0 (l.map ptD) = true
  | [] => by simp [PyData.canLayAll0]
  | x :: l => by simp only [List.map_cons, PyData.canLayAll0, pts_lay l, Bool.and_true]; simp [ptD, PyData.canLay0, PyData.canLayAll0]
theorem vl_lay {n b : Nat} {v : Vl} (h : VOk n b v) : (vlD v).canLay0 = true := by
  have all : ∀ l : List Vl, (∀ v ∈ l, (vlD v).canLay0 = true) → PyData.canLayAll0 (vlDs l) = true := by
    intro l
    induction l with
    | nil => intro _; simp [vlDs, PyData.canLayAll0]
    | cons x l il => intro q; simp [vlDs, PyData.canLayAll0, q x (by simp), il fun v hv => q v (by simp [hv])]
  induction h with
  | word h o => simpa [vlD, PyData.canLay0] using o.1
  | pt h s => simp [vlD, ptD, PyData.canLay0, PyData.canLayAll0]
  | row h0 h ih => simp [vlD, PyData.canLay0, PyData.canLayAll0, all _ ih, row_ok]
  | set hp h ih => simp [vlD, PyData.canLay0, PyData.canLayAll0, all _ ih, pts_lay, set_ok]
theorem vls_lay {n b : Nat} {vs : List Vl} (h : ∀ v ∈ vs, VOk n b v) : PyData.canLayAll0 (vs.map vlD) = true := by
  induction vs with
  | nil => simp [PyData.canLayAll0]
  | cons x l il => simp [PyData.canLayAll0, vl_lay (h x (by simp)), il fun v hv => h v (by simp [hv])]
theorem pts_depth : ∀ l : List Pt, PyData.depthAll (l.map ptD) ≤ 1
  | [] => by simp [PyData.depthAll]
  | x :: l => by
    have := pts_depth l
    simp only [List.map_cons, PyData.depthAll]
    have e : (ptD x).depth = 1 := by simp [ptD, PyData.depth, PyData.depthAll]
    omega
theorem vl_depth {n b : Nat} {v : Vl} (h : VOk n b v) : (vlD v).depth ≤ 2 * n + 1 := by
  induction h with
  | word h o => simp [vlD, PyData.depth]
  | pt h s => simp [vlD, ptD, PyData.depth, PyData.depthAll]
  | @row n b vs h0 h ih =>
    have : PyData.depthAll (vlDs vs) ≤ 2 * n + 1 := by
      clear h h0
      induction vs with
      | nil => simp [vlDs, PyData.depthAll]
      | cons x l il => have := il fun v hv => ih v (by simp [hv]); have := ih x (by simp); simp only [vlDs, PyData.depthAll]; omega
    simp only [vlD, PyData.depth, PyData.depthAll]; omega
  | @set n b ps ms hp h ih =>
    have : PyData.depthAll (vlDs ms) ≤ 2 * n + 1 := by
      clear h
      induction ms with
      | nil => simp [vlDs, PyData.depthAll]
      | cons x l il => have := il fun v hv => ih v (by simp [hv]); have := ih x (by simp); simp only [vlDs, PyData.depthAll]; omega
    have := pts_depth ps
    simp only [vlD, PyData.depth, PyData.depthAll]; omega
theorem shaped_of {d : PyData} (h : d.canLay0 = true) (h2 : d.depth ≤ 60) : SeqAt.shaped d = true := by
  unfold SeqAt.shaped
  simp [h]; omega
theorem vl_shaped {n b : Nat} {v : Vl} (h : VOk n b v) (hn : n ≤ 28) : SeqAt.shaped (vlD v) = true := shaped_of (vl_lay h) (by have := vl_depth h; omega)
theorem ptL_shaped (l : List Pt) : SeqAt.shaped (.list (l.map ptD)) = true := shaped_of (by simp [PyData.canLay0, pts_lay]) (by have := pts_depth l; simp only [PyData.depth]; omega)
theorem ptT_shaped (l : List Pt) : SeqAt.shaped (.tuple (l.map ptD)) = true := shaped_of (by simp [PyData.canLay0, pts_lay]) (by have := pts_depth l; simp only [PyData.depth]; omega)
theorem vlL_shaped {n b : Nat} {vs : List Vl} (h : ∀ v ∈ vs, VOk n b v) (hn : n ≤ 28) : SeqAt.shaped (.list (vs.map vlD)) = true := by
  refine shaped_of (by simp only [PyData.canLay0]; exact vls_lay h) ?_
  have : PyData.depthAll (vs.map vlD) ≤ 2 * n + 1 := by
    induction vs with
    | nil => simp [PyData.depthAll]
    | cons x l il => have := il fun v hv => h v (by simp [hv]); have := vl_depth (h x (by simp)); simp only [List.map_cons, PyData.depthAll]; omega
  simp only [PyData.depth]; omega
theorem any_pt (l : List Pt) (x : Pt) : ((l.map ptD).any fun z => PyData.eqv z (ptD x)) = decide (x ∈ l) := by
  rw [Bool.eq_iff_iff]
  simp only [List.any_eq_true, decide_eq_true_eq, List.mem_map]
  constructor
  · rintro ⟨_, ⟨y, hy, rfl⟩, e⟩
    rw [ptD_eqv] at e
    rw [← of_decide_eq_true e]; exact hy
  · intro h
    exact ⟨_, ⟨x, h, rfl⟩, by rw [ptD_eqv]; simp⟩
theorem pts_eqv : ∀ l m : List Pt, PyData.eqvAll (l.map ptD) (m.map ptD) = decide (l = m)
  | [], [] => by simp [PyData.eqvAll]
  | [], _ :: _ => by simp [PyData.eqvAll]
  | _ :: _, [] => by simp [PyData.eqvAll]
  | x :: l, y :: m => by
    simp only [List.map_cons, PyData.eqvAll, ptD_eqv, pts_eqv l m]
    rw [Bool.eq_iff_iff]; simp
theorem row_set : PyData.eqv (.str "row") (.str "set") = false := by decide +kernel
theorem set_row : PyData.eqv (.str "set") (.str "row") = false := by decide +kernel
theorem row_row : PyData.eqv (.str "row") (.str "row") = true := by decide +kernel
theorem set_set : PyData.eqv (.str "set") (.str "set") = true := by decide +kernel
theorem int_str (i : Int) (s : Str) : PyData.eqv (.int i) (.str s) = false := by simp [PyData.eqv]
theorem str_shaped {s : Str} (o : PyData.strOk s = true) : SeqAt.shaped (.str s) = true := shaped_of (by simpa [PyData.canLay0] using o) (by simp [PyData.depth])
theorem i_shaped (i : Int) : SeqAt.shaped (.int i) = true := shaped_of (by simp [PyData.canLay0]) (by simp [PyData.depth])
/-- x == y of data, e known -/
theorem eqD {K : PySem.W.Frag} {H : Hp} {x y : V} {d e : PyData} {Q : VK} {b : Bool} (hx : L2.Dp K H x d) (hy : L2.Dp K H y e) (sx : SeqAt.shaped d = true) (sy : SeqAt.shaped e = true) (hb : PyData.eqv d e = b) (q : Q (.bl b) H) : rEqD K x y H Q := ⟨d, e, hx, hy, sx, sy, by rw [hb]; exact q⟩
/-- v[0] == "row" | "set" -/
theorem is_row {K : PySem.W.Frag} {H : Hp} {Q : VK} (q : Q (.bl true) H) : rEqD K (.str "row") (.str "row") H Q := eqD (.str _) (.str _) (str_shaped row_ok) (str_shaped row_ok) row_row q
theorem is_set {K : PySem.W.Frag} {H : Hp} {Q : VK} (q : Q (.bl true) H) : rEqD K (.str "set") (.str "set") H Q := eqD (.str _) (.str _) (str_shaped set_ok) (str_shaped set_ok) set_set q
theorem no_row {K : PySem.W.Frag} {H : Hp} {Q : VK} (q : Q (.bl false) H) : rEqD K (.str "set") (.str "row") H Q := eqD (.str _) (.str _) (str_shaped set_ok) (str_shaped row_ok) set_row q
theorem no_set {K : PySem.W.Frag} {H : Hp} {Q : VK} (q : Q (.bl false) H) : rEqD K (.str "row") (.str "set") H Q := eqD (.str _) (.str _) (str_shaped row_ok) (str_shaped set_ok) row_set q
theorem no_int {K : PySem.W.Frag} {H : Hp} {i : Int} {s : Str} {Q : VK} (o : PyData.strOk s = true) (q : Q (.bl false) H) : rEqD K (.int i) (.str s) H Q := eqD (.int _) (.str _) (i_shaped _) (str_shaped o) (int_str _ _) q
end G
set_option Elab.async false
set_option linter.all false
set_option maxRecDepth 100000
namespace G
open PySem L2
def top (i : Nat) : Stmt := PySem.Challenge.pw_gapwise_k23_moves_between_alike_values.main.body.getD i (.Pass ⟨0, 0, 0, 0⟩)
structure DefAt (K : PySem.W.Frag) (mg : Str → Option Value) (x : Str) (st : Stmt) (ps : List Str) (f : Addr) (fd : FuncData) : Prop where
  F : Fun K x x st f fd
  g : mg x = some (.ref f)
  b : Binds K fd ps []
abbrev s_copied : Stmt := top 2
abbrev N_copied : List Str := ["value", "frames", "whole", "parts", "found", "part", "made"]
abbrev P_copied : List Str := ["value"]
theorem sc_copied : FnScope N_copied P_copied (defScope s_copied) := ⟨rfl, rfl, rfl, by decide +kernel, rfl, by decide +kernel, by decide +kernel⟩
abbrev s_parts_in : Stmt := top 3
abbrev N_parts_in : List Str := ["value", "key"]
abbrev P_parts_in : List Str := ["value"]
theorem sc_parts_in : FnScope N_parts_in P_parts_in (defScope s_parts_in) := ⟨rfl, rfl, rfl, by decide +kernel, rfl, by decide +kernel, by decide +kernel⟩
abbrev s_put_together : Stmt := top 4
abbrev N_put_together : List Str := ["whole", "parts", "names", "at"]
abbrev P_put_together : List Str := ["whole", "parts"]
theorem sc_put_together : FnScope N_put_together P_put_together (defScope s_put_together) := ⟨rfl, rfl, rfl, by decide +kernel, rfl, by decide +kernel, by decide +kernel⟩
abbrev s_make_point : Stmt := top 9
abbrev N_make_point : List Str := ["p", "q", "common"]
abbrev P_make_point : List Str := ["p", "q"]
theorem sc_make_point : FnScope N_make_point P_make_point (defScope s_make_point) := ⟨rfl, rfl, rfl, by decide +kernel, rfl, by decide +kernel, by decide +kernel⟩
abbrev s_is_before : Stmt := top 10
abbrev N_is_before : List Str := ["one", "other"]
abbrev P_is_before : List Str := ["one", "other"]
theorem sc_is_before : FnScope N_is_before P_is_before (defScope s_is_before) := ⟨rfl, rfl, rfl, by decide +kernel, rfl, by decide +kernel, by decide +kernel⟩
abbrev s_code_of : Stmt := top 11
abbrev N_code_of : List Str := ["points", "point", "low", "high", "middle"]
abbrev P_code_of : List Str := ["points", "point"]
theorem sc_code_of : FnScope N_code_of P_code_of (defScope s_code_of) := ⟨rfl, rfl, rfl, by decide +kernel, rfl, by decide +kernel, by decide +kernel⟩
abbrev s_merged_points : Stmt := top 12
abbrev N_merged_points : List Str := ["one", "other", "found", "point", "code"]
abbrev P_merged_points : List Str := ["one", "other"]
theorem sc_merged_points : FnScope N_merged_points P_merged_points (defScope s_merged_points) := ⟨rfl, rfl, rfl, by decide +kernel, rfl, by decide +kernel, by decide +kernel⟩
abbrev s_spread : Stmt := top 13
abbrev N_spread : List Str := ["points", "gap", "n", "i", "p", "q"]
abbrev P_spread : List Str := ["points", "gap", "n"]
theorem sc_spread : FnScope N_spread P_spread (defScope s_spread) := ⟨rfl, rfl, rfl, by decide +kernel, rfl, by decide +kernel, by decide +kernel⟩
abbrev s_between : Stmt := top 14
abbrev N_between : List Str := ["low", "high", "part", "parts", "start", "way"]
abbrev P_between : List Str := ["low", "high", "part", "parts"]
theorem sc_between : FnScope N_between P_between (defScope s_between) := ⟨rfl, rfl, rfl, by decide +kernel, rfl, by decide +kernel, by decide +kernel⟩
abbrev s_codes_of : Stmt := top 16
abbrev N_codes_of : List Str := ["places", "points", "place"]
abbrev P_codes_of : List Str := ["places", "points"]
theorem sc_codes_of : FnScope N_codes_of P_codes_of (defScope s_codes_of) := ⟨rfl, rfl, rfl, by decide +kernel, rfl, by decide +kernel, by decide +kernel⟩
abbrev s_places_of : Stmt := top 17
abbrev N_places_of : List Str := ["codes", "points", "places", "at", "code", "many"]
abbrev P_places_of : List Str := ["codes", "points"]
theorem sc_places_of : FnScope N_places_of P_places_of (defScope s_places_of) := ⟨rfl, rfl, rfl, by decide +kernel, rfl, by decide +kernel, by decide +kernel⟩
abbrev s_support : Stmt := top 19
abbrev N_support : List Str := ["value", "found", "part"]
abbrev P_support : List Str := ["value"]
theorem sc_support : FnScope N_support P_support (defScope s_support) := ⟨rfl, rfl, rfl, by decide +kernel, rfl, by decide +kernel, by decide +kernel⟩
abbrev s_value_text : Stmt := top 20
abbrev N_value_text : List Str := ["value", "part", "point", "points", "member", "members", "p", "q"]
abbrev P_value_text : List Str := ["value"]
theorem sc_value_text : FnScope N_value_text P_value_text (defScope s_value_text) := ⟨rfl, rfl, rfl, by decide +kernel, rfl, by decide +kernel, by decide +kernel⟩
abbrev s_moved : Stmt := top 22
abbrev N_moved : List Str := ["value", "move", "old", "new", "table", "point"]
abbrev P_moved : List Str := ["value", "move"]
theorem sc_moved : FnScope N_moved P_moved (defScope s_moved) := ⟨rfl, rfl, rfl, by decide +kernel, rfl, by decide +kernel, by decide +kernel⟩
abbrev s_led : Stmt := top 23
abbrev N_led : List Str := ["value", "table", "part"]
abbrev P_led : List Str := ["value", "table"]
theorem sc_led : FnScope N_led P_led (defScope s_led) := ⟨rfl, rfl, rfl, by decide +kernel, rfl, by decide +kernel, by decide +kernel⟩
abbrev s_led_set : Stmt := top 24
abbrev N_led_set : List Str := ["many", "table", "olds", "point", "news", "member", "members"]
abbrev P_led_set : List Str := ["many", "table"]
theorem sc_led_set : FnScope N_led_set P_led_set (defScope s_led_set) := ⟨rfl, rfl, rfl, by decide +kernel, rfl, by decide +kernel, by decide +kernel⟩
abbrev s_by_texts : Stmt := top 25
abbrev N_by_texts : List Str := ["values", "value", "pairs", "_"]
abbrev P_by_texts : List Str := ["values"]
theorem sc_by_texts : FnScope N_by_texts P_by_texts (defScope s_by_texts) := ⟨rfl, rfl, rfl, by decide +kernel, rfl, by decide +kernel, by decide +kernel⟩
abbrev s_replaced : Stmt := top 26
abbrev N_replaced : List Str := ["value", "olds", "news", "points", "places"]
abbrev P_replaced : List Str := ["value", "olds", "news"]
theorem sc_replaced : FnScope N_replaced P_replaced (defScope s_replaced) := ⟨rfl, rfl, rfl, by decide +kernel, rfl, by decide +kernel, by decide +kernel⟩
abbrev s_placed : Stmt := top 27
abbrev N_placed : List Str := ["value", "points"]
abbrev P_placed : List Str := ["value", "points"]
theorem sc_placed : FnScope N_placed P_placed (defScope s_placed) := ⟨rfl, rfl, rfl, by decide +kernel, rfl, by decide +kernel, by decide +kernel⟩
abbrev s_are_alike : Stmt := top 28
abbrev N_are_alike : List Str := ["points", "one", "other"]
abbrev P_are_alike : List Str := ["points", "one", "other"]
theorem sc_are_alike : FnScope N_are_alike P_are_alike (defScope s_are_alike) := ⟨rfl, rfl, rfl, by decide +kernel, rfl, by decide +kernel, by decide +kernel⟩
abbrev s__law_open_cells : Stmt := top 32
abbrev N__law_open_cells : List Str := ["script", "mixed", "cell", "cells"]
abbrev P__law_open_cells : List Str := ["script"]
theorem sc__law_open_cells : FnScope N__law_open_cells P__law_open_cells (defScope s__law_open_cells) := ⟨rfl, rfl, rfl, by decide +kernel, rfl, by decide +kernel, by decide +kernel⟩
abbrev s__law_pick : Stmt := top 33
abbrev N__law_pick : List Str := ["source", "most", "cells", "left", "turn", "mixed"]
abbrev P__law_pick : List Str := ["source", "most"]
theorem sc__law_pick : FnScope N__law_pick P__law_pick (defScope s__law_pick) := ⟨rfl, rfl, rfl, by decide +kernel, rfl, by decide +kernel, by decide +kernel⟩
abbrev s__law_point : Stmt := top 34
abbrev N__law_point : List Str := ["p", "q", "a", "b"]
abbrev P__law_point : List Str := ["p", "q"]
theorem sc__law_point : FnScope N__law_point P__law_point (defScope s__law_point) := ⟨rfl, rfl, rfl, by decide +kernel, rfl, by decide +kernel, by decide +kernel⟩
abbrev s__law_less : Stmt := top 35
abbrev N__law_less : List Str := ["one", "other"]
abbrev P__law_less : List Str := ["one", "other"]
theorem sc__law_less : FnScope N__law_less P__law_less (defScope s__law_less) := ⟨rfl, rfl, rfl, by decide +kernel, rfl, by decide +kernel, by decide +kernel⟩
abbrev s__law_ascending : Stmt := top 36
abbrev N__law_ascending : List Str := ["some", "found", "point", "one", "low"]
abbrev P__law_ascending : List Str := ["some"]
theorem sc__law_ascending : FnScope N__law_ascending P__law_ascending (defScope s__law_ascending) := ⟨rfl, rfl, rfl, by decide +kernel, rfl, by decide +kernel, by decide +kernel⟩
abbrev s__law_gap : Stmt := top 37
abbrev N__law_gap : List Str := ["points", "point", "one"]
abbrev P__law_gap : List Str := ["points", "point"]
theorem sc__law_gap : FnScope N__law_gap P__law_gap (defScope s__law_gap) := ⟨rfl, rfl, rfl, by decide +kernel, rfl, by decide +kernel, by decide +kernel⟩
abbrev s__law_spread : Stmt := top 38
abbrev N__law_spread : List Str := ["points", "gap", "n", "i", "p", "q", "a", "b", "c", "d"]
abbrev P__law_spread : List Str := ["points", "gap", "n"]
theorem sc__law_spread : FnScope N__law_spread P__law_spread (defScope s__law_spread) := ⟨rfl, rfl, rfl, by decide +kernel, rfl, by decide +kernel, by decide +kernel⟩
abbrev s__law_support : Stmt := top 39
abbrev N__law_support : List Str := ["value", "found", "part"]
abbrev P__law_support : List Str := ["value"]
theorem sc__law_support : FnScope N__law_support P__law_support (defScope s__law_support) := ⟨rfl, rfl, rfl, by decide +kernel, rfl, by decide +kernel, by decide +kernel⟩
abbrev s__law_text : Stmt := top 40
abbrev N__law_text : List Str := ["value", "one", "left"]
abbrev P__law_text : List Str := ["value"]
theorem sc__law_text : FnScope N__law_text P__law_text (defScope s__law_text) := ⟨rfl, rfl, rfl, by decide +kernel, rfl, by decide +kernel, by decide +kernel⟩
abbrev s__law_moved : Stmt := top 41
abbrev N__law_moved : List Str := ["value", "olds", "news", "part", "one", "points", "found", "member", "further", "ends"]
abbrev P__law_moved : List Str := ["value", "olds", "news"]
theorem sc__law_moved : FnScope N__law_moved P__law_moved (defScope s__law_moved) := ⟨rfl, rfl, rfl, by decide +kernel, rfl, by decide +kernel, by decide +kernel⟩
abbrev s__law_ends : Stmt := top 42
abbrev N__law_ends : List Str := ["olds", "news", "further", "found", "gap", "one", "many"]
abbrev P__law_ends : List Str := ["olds", "news", "further"]
theorem sc__law_ends : FnScope N__law_ends P__law_ends (defScope s__law_ends) := ⟨rfl, rfl, rfl, by decide +kernel, rfl, by decide +kernel, by decide +kernel⟩
abbrev s__law_placed : Stmt := top 43
abbrev N__law_placed : List Str := ["value", "points", "one", "further", "olds", "news"]
abbrev P__law_placed : List Str := ["value", "points"]
theorem sc__law_placed : FnScope N__law_placed P__law_placed (defScope s__law_placed) := ⟨rfl, rfl, rfl, by decide +kernel, rfl, by decide +kernel, by decide +kernel⟩
abbrev s__law_alike : Stmt := top 44
abbrev N__law_alike : List Str := ["value", "points", "there"]
abbrev P__law_alike : List Str := ["value", "points", "there"]
theorem sc__law_alike : FnScope N__law_alike P__law_alike (defScope s__law_alike) := ⟨rfl, rfl, rfl, by decide +kernel, rfl, by decide +kernel, by decide +kernel⟩
abbrev s__law_bundle : Stmt := top 45
abbrev N__law_bundle : List Str := ["member", "others", "point", "one", "rest", "gap", "here", "away", "known", "found", "olds", "low", "is_on", "news", "ends"]
abbrev P__law_bundle : List Str := ["member", "others", "point"]
theorem sc__law_bundle : FnScope N__law_bundle P__law_bundle (defScope s__law_bundle) := ⟨rfl, rfl, rfl, by decide +kernel, rfl, by decide +kernel, by decide +kernel⟩
abbrev s__law_made : Stmt := top 46
abbrev N__law_made : List Str := ["points", "values", "told", "value", "there", "point", "one", "others", "member", "fewer"]
abbrev P__law_made : List Str := ["points", "values"]
theorem sc__law_made : FnScope N__law_made P__law_made (defScope s__law_made) := ⟨rfl, rfl, rfl, by decide +kernel, rfl, by decide +kernel, by decide +kernel⟩
abbrev s__law_draw_points : Stmt := top 47
abbrev N__law_draw_points : List Str := ["source", "many", "found", "here", "lap", "q"]
abbrev P__law_draw_points : List Str := ["source", "many"]
theorem sc__law_draw_points : FnScope N__law_draw_points P__law_draw_points (defScope s__law_draw_points) := ⟨rfl, rfl, rfl, by decide +kernel, rfl, by decide +kernel, by decide +kernel⟩
abbrev s__law_draw_value : Stmt := top 48
abbrev N__law_draw_value : List Str := ["source", "pool", "deep", "road", "lap"]
abbrev P__law_draw_value : List Str := ["source", "pool", "deep"]
theorem sc__law_draw_value : FnScope N__law_draw_value P__law_draw_value (defScope s__law_draw_value) := ⟨rfl, rfl, rfl, by decide +kernel, rfl, by decide +kernel, by decide +kernel⟩
abbrev s__law_draw_set : Stmt := top 49
abbrev N__law_draw_set : List Str := ["source", "pool", "deep", "most", "lap", "points"]
abbrev P__law_draw_set : List Str := ["source", "pool", "deep", "most"]
theorem sc__law_draw_set : FnScope N__law_draw_set P__law_draw_set (defScope s__law_draw_set) := ⟨rfl, rfl, rfl, by decide +kernel, rfl, by decide +kernel, by decide +kernel⟩
abbrev s__law_due : Stmt := top 50
abbrev N__law_due : List Str := ["one", "other", "points", "olds", "news", "old", "new"]
abbrev P__law_due : List Str := ["one", "other", "points"]
theorem sc__law_due : FnScope N__law_due P__law_due (defScope s__law_due) := ⟨rfl, rfl, rfl, by decide +kernel, rfl, by decide +kernel, by decide +kernel⟩
abbrev s_law : Stmt := top 51
abbrev N_law : List Str := ["script", "source", "lap", "pool", "value", "other", "olds", "led_v", "point", "kept", "near", "one", "points", "due", "pair"]
abbrev P_law : List Str := ["script"]
theorem sc_law : FnScope N_law P_law (defScope s_law) := ⟨rfl, rfl, rfl, by decide +kernel, rfl, by decide +kernel, by decide +kernel⟩
structure Txt (mg : Str → Option Value) : Prop where
  b_abs : mg "abs" = none
  b_int : mg "int" = none
  b_len : mg "len" = none
  b_range : mg "range" = none
  b_all : mg "all" = none
  b_any : mg "any" = none
  b_list : mg "list" = none
  b_tuple : mg "tuple" = none
  b_isinstance : mg "isinstance" = none
  b_repr : mg "repr" = none
  b_zip : mg "zip" = none
  b_str : mg "str" = none
  b_sorted : mg "sorted" = none
  b_dict : mg "dict" = none
  i_gcd : mg "gcd" = some (.builtin "math.gcd")
structure Ds (K : PySem.W.Frag) (mg : Str → Option Value) where
  T : Txt mg
  f_copied : Addr
  fd_copied : FuncData
  D_copied : DefAt K mg "copied" s_copied P_copied f_copied fd_copied
  f_parts_in : Addr
  fd_parts_in : FuncData
  D_parts_in : DefAt K mg "parts_in" s_parts_in P_parts_in f_parts_in fd_parts_in
  f_put_together : Addr
  fd_put_together : FuncData
  D_put_together : DefAt K mg "put_together" s_put_together P_put_together f_put_together fd_put_together
  f_make_point : Addr
  fd_make_point : FuncData
  D_make_point : DefAt K mg "make_point" s_make_point P_make_point f_make_point fd_make_point
  f_is_before : Addr
  fd_is_before : FuncData
  D_is_before : DefAt K mg "is_before" s_is_before P_is_before f_is_before fd_is_before
  f_code_of : Addr
  fd_code_of : FuncData
  D_code_of : DefAt K mg "code_of" s_code_of P_code_of f_code_of fd_code_of
  f_merged_points : Addr
  fd_merged_points : FuncData
  D_merged_points : DefAt K mg "merged_points" s_merged_points P_merged_points f_merged_points fd_merged_points
  f_spread : Addr
  fd_spread : FuncData
  D_spread : DefAt K mg "spread" s_spread P_spread f_spread fd_spread
  f_between : Addr
  fd_between : FuncData
  D_between : DefAt K mg "between" s_between P_between f_between fd_between
  f_codes_of : Addr
  fd_codes_of : FuncData
  D_codes_of : DefAt K mg "codes_of" s_codes_of P_codes_of f_codes_of fd_codes_of
  f_places_of : Addr
  fd_places_of : FuncData
  D_places_of : DefAt K mg "places_of" s_places_of P_places_of f_places_of fd_places_of
  f_support : Addr
  fd_support : FuncData
  D_support : DefAt K mg "support" s_support P_support f_support fd_support
  f_value_text : Addr
  fd_value_text : FuncData
  D_value_text : DefAt K mg "value_text" s_value_text P_value_text f_value_text fd_value_text
  f_moved : Addr
  fd_moved : FuncData
  D_moved : DefAt K mg "moved" s_moved P_moved f_moved fd_moved
  f_led : Addr
  fd_led : FuncData
  D_led : DefAt K mg "led" s_led P_led f_led fd_led
  f_led_set : Addr
  fd_led_set : FuncData
  D_led_set : DefAt K mg "led_set" s_led_set P_led_set f_led_set fd_led_set
  f_by_texts : Addr
  fd_by_texts : FuncData
  D_by_texts : DefAt K mg "by_texts" s_by_texts P_by_texts f_by_texts fd_by_texts
  f_replaced : Addr
  fd_replaced : FuncData
  D_replaced : DefAt K mg "replaced" s_replaced P_replaced f_replaced fd_replaced
  f_placed : Addr
  fd_placed : FuncData
  D_placed : DefAt K mg "placed" s_placed P_placed f_placed fd_placed
  f_are_alike : Addr
  fd_are_alike : FuncData
  D_are_alike : DefAt K mg "are_alike" s_are_alike P_are_alike f_are_alike fd_are_alike
  f__law_open_cells : Addr
  fd__law_open_cells : FuncData
  D__law_open_cells : DefAt K mg "_law_open_cells" s__law_open_cells P__law_open_cells f__law_open_cells fd__law_open_cells
  f__law_pick : Addr
  fd__law_pick : FuncData
  D__law_pick : DefAt K mg "_law_pick" s__law_pick P__law_pick f__law_pick fd__law_pick
  f__law_point : Addr
  fd__law_point : FuncData
  D__law_point : DefAt K mg "_law_point" s__law_point P__law_point f__law_point fd__law_point
  f__law_less : Addr
  fd__law_less : FuncData
  D__law_less : DefAt K mg "_law_less" s__law_less P__law_less f__law_less fd__law_less
  f__law_ascending : Addr
  fd__law_ascending : FuncData
  D__law_ascending : DefAt K mg "_law_ascending" s__law_ascending P__law_ascending f__law_ascending fd__law_ascending
  f__law_gap : Addr
  fd__law_gap : FuncData
  D__law_gap : DefAt K mg "_law_gap" s__law_gap P__law_gap f__law_gap fd__law_gap
  f__law_spread : Addr
  fd__law_spread : FuncData
  D__law_spread : DefAt K mg "_law_spread" s__law_spread P__law_spread f__law_spread fd__law_spread
  f__law_support : Addr
  fd__law_support : FuncData
  D__law_support : DefAt K mg "_law_support" s__law_support P__law_support f__law_support fd__law_support
  f__law_text : Addr
  fd__law_text : FuncData
  D__law_text : DefAt K mg "_law_text" s__law_text P__law_text f__law_text fd__law_text
  f__law_moved : Addr
  fd__law_moved : FuncData
  D__law_moved : DefAt K mg "_law_moved" s__law_moved P__law_moved f__law_moved fd__law_moved
  f__law_ends : Addr
  fd__law_ends : FuncData
  D__law_ends : DefAt K mg "_law_ends" s__law_ends P__law_ends f__law_ends fd__law_ends
  f__law_placed : Addr
  fd__law_placed : FuncData
  D__law_placed : DefAt K mg "_law_placed" s__law_placed P__law_placed f__law_placed fd__law_placed
  f__law_alike : Addr
  fd__law_alike : FuncData
  D__law_alike : DefAt K mg "_law_alike" s__law_alike P__law_alike f__law_alike fd__law_alike
  f__law_bundle : Addr
  fd__law_bundle : FuncData
  D__law_bundle : DefAt K mg "_law_bundle" s__law_bundle P__law_bundle f__law_bundle fd__law_bundle
  f__law_made : Addr
  fd__law_made : FuncData
  D__law_made : DefAt K mg "_law_made" s__law_made P__law_made f__law_made fd__law_made
  f__law_draw_points : Addr
  fd__law_draw_points : FuncData
  D__law_draw_points : DefAt K mg "_law_draw_points" s__law_draw_points P__law_draw_points f__law_draw_points fd__law_draw_points
  f__law_draw_value : Addr
  fd__law_draw_value : FuncData
  D__law_draw_value : DefAt K mg "_law_draw_value" s__law_draw_value P__law_draw_value f__law_draw_value fd__law_draw_value
  f__law_draw_set : Addr
  fd__law_draw_set : FuncData
  D__law_draw_set : DefAt K mg "_law_draw_set" s__law_draw_set P__law_draw_set f__law_draw_set fd__law_draw_set
  f__law_due : Addr
  fd__law_due : FuncData
  D__law_due : DefAt K mg "_law_due" s__law_due P__law_due f__law_due fd__law_due
  f_law : Addr
  fd_law : FuncData
  D_law : DefAt K mg "law" s_law P_law f_law fd_law

/-! ### the cells that are drawn from -/
def srcD (c : Addr) (l m t : Int) : List (Key × V) := [(.inr "cells", .ref c), (.inr "left", .int l), (.inr "mixed", .int m), (.inr "turn", .int t)]
structure SrcAt (H : Hp) (d c : Addr) : Prop where
  ex : ∃ (cs : List Int) (l m t : Int), H d = some (.dK (srcD c l m t)) ∧ H c = some (.lst (cs.map V.int)) ∧ (∀ z ∈ cs, 0 ≤ z) ∧ cs.length ≤ 63 ∧ 0 ≤ l ∧ 0 ≤ m ∧ m < 2147483648
def Mdc (d c : Addr) : Addr → Prop := fun b => b = d ∨ b = c
theorem SrcAt.other {H : Hp} {d c p : Addr} {o : HO} (h : SrcAt H d c) (h1 : d ≠ p) (h2 : c ≠ p) : SrcAt (upd H p o) d c := by
  obtain ⟨cs, l, m, t, e1, e2, r⟩ := h.ex
  exact ⟨cs, l, m, t, by rw [upd_ne h1]; exact e1, by rw [upd_ne h2]; exact e2, r⟩
theorem SrcAt.d_ne {H : Hp} {d c p : Addr} (h : SrcAt H d c) (n : H p = none) : d ≠ p := by
  obtain ⟨cs, l, m, t, e1, e2, r⟩ := h.ex
  exact ne_of_none e1 n
theorem SrcAt.c_ne {H : Hp} {d c p : Addr} (h : SrcAt H d c) (n : H p = none) : c ≠ p := by
  obtain ⟨cs, l, m, t, e1, e2, r⟩ := h.ex
  exact ne_of_none e2 n
theorem SrcAt.new {H : Hp} {d c p : Addr} {o : HO} (h : SrcAt H d c) (n : H p = none) : SrcAt (upd H p o) d c := h.other (h.d_ne n) (h.c_ne n)
theorem SrcAt.keep {H H' : Hp} {d c : Addr} (h : SrcAt H d c) (k : Kp M0 H H') : SrcAt H' d c := by
  obtain ⟨cs, l, m, t, e1, e2, r⟩ := h.ex
  exact ⟨cs, l, m, t, k _ _ e1 (fun z => z), k _ _ e2 (fun z => z), r⟩
theorem SrcAt.tk {H H' : Hp} {d c : Addr} (h : SrcAt H d c) (k : Kp (Mdc d c) H H') : Tk H H' := k.tk fun b o m e => by
  obtain ⟨cs, l, m', t, e1, e2, r⟩ := h.ex
  rcases m with rfl | rfl
  · rw [e1] at e; cases e; rfl
  · rw [e2] at e; cases e; rfl
theorem src_c {H : Hp} {d c : Addr} {l m t : Int} (h : H d = some (.dK (srcD c l m t))) : DGet H d (.str "cells") (some (.ref c)) := by
  have e : valV (srcD c l m t) (.inr ("cells" : Str) : Key) = some (V.ref c) := by simp [valV, srcD]
  rw [← e]; exact DGet.k (k := Sum.inr "cells") h
theorem src_l {H : Hp} {d c : Addr} {l m t : Int} (h : H d = some (.dK (srcD c l m t))) : DGet H d (.str "left") (some (.int l)) := by
  have e : valV (srcD c l m t) (.inr ("left" : Str) : Key) = some (V.int l) := by
    have e1 : ¬ (("cells" : Str) = "left") := by decide +kernel
    simp [valV, srcD, e1]
  rw [← e]; exact DGet.k (k := Sum.inr "left") h
theorem src_m {H : Hp} {d c : Addr} {l m t : Int} (h : H d = some (.dK (srcD c l m t))) : DGet H d (.str "mixed") (some (.int m)) := by
  have e : valV (srcD c l m t) (.inr ("mixed" : Str) : Key) = some (V.int m) := by
    have e1 : ¬ (("cells" : Str) = "mixed") := by decide +kernel
    have e2 : ¬ (("left" : Str) = "mixed") := by decide +kernel
    simp [valV, srcD, e1, e2]
  rw [← e]; exact DGet.k (k := Sum.inr "mixed") h
theorem src_t {H : Hp} {d c : Addr} {l m t : Int} (h : H d = some (.dK (srcD c l m t))) : DGet H d (.str "turn") (some (.int t)) := by
  have e : valV (srcD c l m t) (.inr ("turn" : Str) : Key) = some (V.int t) := by
    have e1 : ¬ (("cells" : Str) = "turn") := by decide +kernel
    have e2 : ¬ (("left" : Str) = "turn") := by decide +kernel
    have e3 : ¬ (("mixed" : Str) = "turn") := by decide +kernel
    simp [valV, srcD, e1, e2, e3]
  rw [← e]; exact DGet.k (k := Sum.inr "turn") h
theorem put_l {H : Hp} {d c : Addr} {l m t l' : Int} (h : H d = some (.dK (srcD c l m t))) : DPut H d (.str "left") (.int l') (upd H d (.dK (srcD c l' m t))) := by
  have e : putK (srcD c l m t) (.inr ("left" : Str) : Key) (.int l') = srcD c l' m t := by
    have e1 : ¬ (("cells" : Str) = "left") := by decide +kernel
    have e2 : ¬ (("mixed" : Str) = "left") := by decide +kernel
    have e3 : ¬ (("turn" : Str) = "left") := by decide +kernel
    simp [putK, srcD, e1, e2, e3]
  rw [← e]; exact DPut.k (k := Sum.inr "left") h (by show 4 < sizeLine; decide)
theorem put_t {H : Hp} {d c : Addr} {l m t t' : Int} (h : H d = some (.dK (srcD c l m t))) : DPut H d (.str "turn") (.int t') (upd H d (.dK (srcD c l m t'))) := by
  have e : putK (srcD c l m t) (.inr ("turn" : Str) : Key) (.int t') = srcD c l m t' := by
    have e1 : ¬ (("cells" : Str) = "turn") := by decide +kernel
    have e2 : ¬ (("left" : Str) = "turn") := by decide +kernel
    have e3 : ¬ (("mixed" : Str) = "turn") := by decide +kernel
    simp [putK, srcD, e1, e2, e3]
  rw [← e]; exact DPut.k (k := Sum.inr "turn") h (by show 4 < sizeLine; decide)

section
variable {P : Program} {w : World} {K : PySem.W.Frag} {mg : Str → Option Value} {base : Heap}

/-! ### _law_open_cells -/
def sp__law_open_cells (K : PySem.W.Frag) : Sp := fun vs H Q _ => ∃ (a : Addr) (ns : List Int), vs = [.ref a] ∧ SqL K H a (ns.map V.int) ∧ ns.length ≤ 63 ∧
  ∀ (d c : Addr) (H' : Hp), Kp M0 H H' → H d = none → H c = none → SrcAt H' d c → d ≠ c → Q (.ref d) H'
theorem ok__law_open_cells (W : Ds K mg) : FnOk P w K mg base CX0 1 W.f__law_open_cells W.fd__law_open_cells P__law_open_cells (sp__law_open_cells K) := by
  refine W.D__law_open_cells.F.ok sc__law_open_cells (fun vs H Q E h => ?len) (fun cdv A outer s H vs Q E hr h => ?body)
  · obtain ⟨a, ns, rfl, _⟩ := h
    rfl
  · obtain ⟨a, ns, rfl, hS, hl, k⟩ := h
    have nd := sc__law_open_cells.nd
    have hu := hu_of hr
    have hu64 := hr.units
    have hu65 := hu65_of hr
    refine ⟨_, (pss_cons (ps_set (i := 1) nd rfl (by first | exact Or.inl rfl | exact Or.inr rfl) pe_int)
  (pss_cons (ps_for PassesOwn.never rfl (i_list K (pv 0)) (pg_name (i := 2) nd rfl (by first | exact Or.inl rfl | exact Or.inr rfl))
     (pss_one (ps_set (i := 1) nd rfl (by first | exact Or.inl rfl | exact Or.inr rfl) (pe_op op_mod (pe_callTy call_int1 (by rfl) W.T.b_int (by decide +kernel) (pa_cons (pe_op op_add (pe_op op_add (pe_op op_mulK (pv 1) pe_int) (pe_op op_mulK (pv 2) pe_int)) pe_int) pa_nil)) pe_int))))
  (pss_cons (ps_setLc (i := 3) (own := [("cell", 2)]) rfl nd rfl rfl (sw_true rfl rfl rfl (by decide +kernel)) (i_list K (pv 0)) (blkOk_by (N := N__law_open_cells) (sc := defScope s__law_open_cells) (by decide +kernel)) (fun _ _ _ _ _ => (pg_name (i := 2) nd rfl (by first | exact Or.inl rfl | exact Or.inr rfl))) (fun _ _ _ _ _ => pts_nil) (fun _ _ _ _ _ => (pe_callB call_abs (by rfl) W.T.b_abs (by decide +kernel) (pa_cons (pv 2) pa_nil))))
  (pss_one (ps_ret (pe_disp (pps_cons pe_str (e_revL K (pv 3)) (pps_cons pe_str pe_int (pps_cons pe_str (pv 1) (pps_cons pe_str pe_int pps_nil)))) (by rfl) (by rfl) (by decide) (by decide))))))), ?_⟩
    simp only [tSeq, tIfS, tNext, tRet, tRetN, tAsg, tDrop, tPar, tCons, tNil, tCB, tVar, tC, tOp, rI, rI0, rU, tTest, tB, tTup, tLst, gName, tIf, tAnd, tOr, tNot, tAndV, tOrV, tNotV, tUn, tCall, tChain, tSl, tNoPart, tPart, tBM, tBM0, tDGet, sDPut, tAugS, ipI, tAug, rIxT, rIxL, rMulK, rLenK, rLstK, tTruK, gTup, gCons, gNil, rEq, rNe, scal, tNever, rMulK, rGcd, L2.start, List.map, List.length, List.replicate, List.cons_append, List.nil_append, List.append_nil, List.set, List.set_cons_zero, List.set_cons_succ, List.getElem?_cons_succ, List.getElem?_cons_zero, Option.some.injEq, List.cons.injEq, V.int.injEq, V.str.injEq, V.bl.injEq, V.ref.injEq, and_true, true_and, exists_eq_left, exists_eq_left', exists_eq_right, exists_eq_right', exists_eq, exists_and_left, exists_and_right, and_assoc, exists_false, false_and, and_false, or_false, false_or, reduceCtorEq, Nat.reduceAdd, Nat.reduceSub, List.append_assoc, eq_self, if_true, if_false, Bool.false_eq_true, decide_eq_true_eq, List.length_cons, List.length_nil]
    have hk : ∀ (i : Nat) (x : V), (ns.map V.int)[i]? = some x → ∃ z, ns[i]? = some z ∧ x = .int z := fun i x hi => by
      rw [List.getElem?_map] at hi
      cases e : ns[i]? with
      | none => rw [e] at hi; cases hi
      | some z => rw [e] at hi; exact ⟨z, rfl, (Option.some.inj hi).symm⟩
    refine ⟨_, rfl, a, rfl, ⟨_, hS⟩, for_list (K := K) (a := a) (xs := ns.map V.int) (fun i σ H' => H' = H ∧ ∃ (m : Int) (v : Option V), σ = [some (.ref a), some (.int m), v, none] ∧ 0 ≤ m ∧ m < 2147483629) ⟨rfl, 11, none, rfl, by omega, by omega⟩ (fun i σ H' _ h => h.1 ▸ hS) ?_ ?_⟩
    · rintro i x σ H' hi ⟨rfl, m, v, rfl, h0, h1⟩
      obtain ⟨z, hz, rfl⟩ := hk i x hi
      simp only [tSeq, tIfS, tNext, tRet, tRetN, tAsg, tDrop, tPar, tCons, tNil, tCB, tVar, tC, tOp, rI, rI0, rU, tTest, tB, tTup, tLst, gName, tIf, tAnd, tOr, tNot, tAndV, tOrV, tNotV, tUn, tCall, tChain, tSl, tNoPart, tPart, tBM, tBM0, tDGet, sDPut, tAugS, ipI, tAug, rIxT, rIxL, rMulK, rLenK, rLstK, tTruK, gTup, gCons, gNil, rEq, rNe, scal, tNever, rMulK, rGcd, L2.start, List.map, List.length, List.replicate, List.cons_append, List.nil_append, List.append_nil, List.set, List.set_cons_zero, List.set_cons_succ, List.getElem?_cons_succ, List.getElem?_cons_zero, Option.some.injEq, List.cons.injEq, V.int.injEq, V.str.injEq, V.bl.injEq, V.ref.injEq, and_true, true_and, exists_eq_left, exists_eq_left', exists_eq_right, exists_eq_right', exists_eq, exists_and_left, exists_and_right, and_assoc, exists_false, false_and, and_false, or_false, false_or, reduceCtorEq, Nat.reduceAdd, Nat.reduceSub, List.append_assoc, eq_self, if_true, if_false, Bool.false_eq_true, decide_eq_true_eq, List.length_cons, List.length_nil]
      refine ⟨mulOk_r (by omega) (by omega), mulOk_r (by omega) (by omega), by omega, ?_, ?_⟩
      · exact Int.emod_nonneg _ (by omega)
      · exact Int.emod_lt_of_pos _ (by omega)
    · rintro σ H' ⟨rfl, m, v, rfl, h0, h1⟩
      simp only [tSeq, tIfS, tNext, tRet, tRetN, tAsg, tDrop, tPar, tCons, tNil, tCB, tVar, tC, tOp, rI, rI0, rU, tTest, tB, tTup, tLst, gName, tIf, tAnd, tOr, tNot, tAndV, tOrV, tNotV, tUn, tCall, tChain, tSl, tNoPart, tPart, tBM, tBM0, tDGet, sDPut, tAugS, ipI, tAug, rIxT, rIxL, rMulK, rLenK, rLstK, tTruK, gTup, gCons, gNil, rEq, rNe, scal, tNever, rMulK, rGcd, L2.start, List.map, List.length, List.replicate, List.cons_append, List.nil_append, List.append_nil, List.set, List.set_cons_zero, List.set_cons_succ, List.getElem?_cons_succ, List.getElem?_cons_zero, Option.some.injEq, List.cons.injEq, V.int.injEq, V.str.injEq, V.bl.injEq, V.ref.injEq, and_true, true_and, exists_eq_left, exists_eq_left', exists_eq_right, exists_eq_right', exists_eq, exists_and_left, exists_and_right, and_assoc, exists_false, false_and, and_false, or_false, false_or, reduceCtorEq, Nat.reduceAdd, Nat.reduceSub, List.append_assoc, eq_self, if_true, if_false, Bool.false_eq_true, decide_eq_true_eq, List.length_cons, List.length_nil]
      refine tlcL ?_
      refine ⟨_, rfl, lcL (ns.map PyData.int) (fun _ => true) (fun d => match d with | .int i => .int (if i < 0 then -i else i) | _ => d) (by rw [List.length_map, sizeLine_eq]; omega) hS (dps_ints ns) (tupDs_all.mpr fun d h => ?_) (fun d h _ => ?_) htt_yes (fun i d x H1 e _ hx k1 Q' q => ?_) fun D H1 vs hD k1 hd1 ha => ?_⟩
      · obtain ⟨z, _, rfl⟩ := List.mem_map.mp h; rfl
      · obtain ⟨z, _, rfl⟩ := List.mem_map.mp h; rfl
      · obtain ⟨z, _, rfl⟩ := List.mem_map.mp (List.mem_of_getElem? e)
        cases hx
        simp only [tSeq, tIfS, tNext, tRet, tRetN, tAsg, tDrop, tPar, tCons, tNil, tCB, tVar, tC, tOp, rI, rI0, rU, tTest, tB, tTup, tLst, gName, tIf, tAnd, tOr, tNot, tAndV, tOrV, tNotV, tUn, tCall, tChain, tSl, tNoPart, tPart, tBM, tBM0, tDGet, sDPut, tAugS, ipI, tAug, rIxT, rIxL, rMulK, rLenK, rLstK, tTruK, gTup, gCons, gNil, rEq, rNe, scal, tNever, rMulK, rGcd, L2.start, List.map, List.length, List.replicate, List.cons_append, List.nil_append, List.append_nil, List.set, List.set_cons_zero, List.set_cons_succ, List.getElem?_cons_succ, List.getElem?_cons_zero, Option.some.injEq, List.cons.injEq, V.int.injEq, V.str.injEq, V.bl.injEq, V.ref.injEq, and_true, true_and, exists_eq_left, exists_eq_left', exists_eq_right, exists_eq_right', exists_eq, exists_and_left, exists_and_right, and_assoc, exists_false, false_and, and_false, or_false, false_or, reduceCtorEq, Nat.reduceAdd, Nat.reduceSub, List.append_assoc, eq_self, if_true, if_false, Bool.false_eq_true, decide_eq_true_eq, List.length_cons, List.length_nil]
        exact q _ _ (Kp.refl _) (.int _)
      · have hvs : ∃ cs : List Int, vs = cs.map V.int ∧ (∀ z ∈ cs, 0 ≤ z) ∧ cs.length = ns.length := by
          have hf : ∀ (l : List Int) (vs : List V), DpAll K H1 vs (((l.map PyData.int).filter fun _ => true).map (fun d => match d with | .int i => .int (if i < 0 then -i else i) | _ => d)) → ∃ cs : List Int, vs = cs.map V.int ∧ (∀ z ∈ cs, 0 ≤ z) ∧ cs.length = l.length := by
            intro l
            induction l with
            | nil => intro vs h; cases h; exact ⟨[], rfl, by simp, rfl⟩
            | cons n r ih =>
              intro vs h
              simp only [List.map_cons, List.filter_cons_of_pos] at h
              cases h with
              | cons h1 h2 =>
                cases h1
                obtain ⟨cs, rfl, hc, hl⟩ := ih _ h2
                refine ⟨(if n < 0 then -n else n) :: cs, rfl, fun z hz => ?_, by simp [hl]⟩
                rcases List.mem_cons.mp hz with rfl | hz
                · split <;> omega
                · exact hc z hz
          exact hf ns vs ha
        obtain ⟨cs, rfl, hc0, hcl⟩ := hvs
        simp only [tDisp, tPairs, tRevL, tSeq, tIfS, tNext, tRet, tRetN, tAsg, tDrop, tPar, tCons, tNil, tCB, tVar, tC, tOp, rI, rI0, rU, tTest, tB, tTup, tLst, gName, tIf, tAnd, tOr, tNot, tAndV, tOrV, tNotV, tUn, tCall, tChain, tSl, tNoPart, tPart, tBM, tBM0, tDGet, sDPut, tAugS, ipI, tAug, rIxT, rIxL, rMulK, rLenK, rLstK, tTruK, gTup, gCons, gNil, rEq, rNe, scal, tNever, rMulK, rGcd, L2.start, List.map, List.length, List.replicate, List.cons_append, List.nil_append, List.append_nil, List.set, List.set_cons_zero, List.set_cons_succ, List.getElem?_cons_succ, List.getElem?_cons_zero, Option.some.injEq, List.cons.injEq, V.int.injEq, V.str.injEq, V.bl.injEq, V.ref.injEq, and_true, true_and, exists_eq_left, exists_eq_left', exists_eq_right, exists_eq_right', exists_eq, exists_and_left, exists_and_right, and_assoc, exists_false, false_and, and_false, or_false, false_or, reduceCtorEq, Nat.reduceAdd, Nat.reduceSub, List.append_assoc, eq_self, if_true, if_false, Bool.false_eq_true, decide_eq_true_eq, List.length_cons, List.length_nil]
        intro p hp
        have npD : D ≠ p := ne_of_none hd1 hp
        refine ⟨_, Or.inl (Or.inl (by rw [upd_ne npD]; exact hd1)), fun c hc => ?_⟩
        have npc : p ≠ c := ne_of_none (upd_same (H := H1) (o := HO.dK [])) hc
        have hcn : H1 c = none := by rw [upd_ne npc.symm] at hc; exact hc
        refine ⟨by rw [upd_ne npc, upd_same], srcD c 1 m 0, by simp [srcD, kV], by simp [srcD], ?_⟩
        have e1 : mergeK [] (srcD c 1 m 0) = srcD c 1 m 0 := by
          have e1 : ¬ (("cells" : Str) = "left") := by decide +kernel
          have e2 : ¬ (("cells" : Str) = "mixed") := by decide +kernel
          have e3 : ¬ (("cells" : Str) = "turn") := by decide +kernel
          have e4 : ¬ (("left" : Str) = "mixed") := by decide +kernel
          have e5 : ¬ (("left" : Str) = "turn") := by decide +kernel
          have e6 : ¬ (("mixed" : Str) = "turn") := by decide +kernel
          simp [mergeK, srcD, putK, e1, e2, e3, e4, e5, e6]
        rw [e1]
        have n1 : H' p = none := by
          cases q : H' p with
          | none => rfl
          | some o => rw [k1 p o q (fun z => z)] at hp; cases hp
        have n2 : H' c = none := by
          cases q : H' c with
          | none => rfl
          | some o => rw [k1 c o q (fun z => z)] at hcn; cases hcn
        refine k p c _ (((k1.at n1).at n2).at n1) n1 n2 ⟨cs.reverse, 1, m, 0, upd_same, ?_, fun z hz => hc0 z (List.mem_reverse.mp hz), by rw [List.length_reverse, hcl]; exact hl, by omega, h0, by omega⟩ npc
        rw [upd_ne npc.symm, upd_same, List.map_reverse]

/-! ### _law_pick -/
def sp__law_pick (K : PySem.W.Frag) : Sp := fun vs H Q _ => ∃ (d c : Addr) (most : Int), vs = [.ref d, .int most] ∧ SrcAt H d c ∧ d ≠ c ∧ most.natAbs < 2 ^ 8000 ∧
  ∀ (r : Int) (H' : Hp), 0 ≤ r → (r < most ∨ r = 0) → Kp (Mdc d c) H H' → SrcAt H' d c → Q (.int r) H'
theorem ok__law_pick (W : Ds K mg) : FnOk P w K mg base CX0 1 W.f__law_pick W.fd__law_pick P__law_pick (sp__law_pick K) := by
  refine W.D__law_pick.F.ok sc__law_pick (fun vs H Q E h => ?len) (fun cdv A outer s H vs Q E hr h => ?body)
  · obtain ⟨d, c, most, rfl, _⟩ := h
    rfl
  · obtain ⟨d, c, most, rfl, hS, ndc, hm, k⟩ := h
    have nd := sc__law_pick.nd
    have hu := hu_of hr
    have hu64 := hr.units
    have hu65 := hu65_of hr
    refine ⟨_, (pss_cons (ps_if (pt_cmpR op_lt (pv 1) pe_int (nomark _))
     (pss_one (ps_ret pe_int))
     pss_nil)
  (pss_cons (ps_set (i := 2) nd rfl (by first | exact Or.inl rfl | exact Or.inr rfl) (pe_dget hu (pv 0) pe_str (fun _ _ => rfl)))
  (pss_cons (ps_while PassesOwn.never (PW.pt (pw_and (pt_cmpR op_lt (pe_dget hu (pv 0) pe_str (fun _ _ => rfl)) pe_int (nomark _)) (pw_and1 (pt_cmpR op_gt (pe_callB (c_len K) (by rfl) W.T.b_len (by decide +kernel) (pa_cons (pv 2) pa_nil)) pe_int (nomark _)))))
     (pss_one (ps_dput hu (pv 0) pe_str (e_bm0 K (pe_bm0 PySem.F.plainAttrs_list PySem.F.slot_list_pop PySem.F.type_list_pop mt_pop (pv 2))) (by rfl))))
  (pss_cons (ps_set (i := 3) nd rfl (by first | exact Or.inl rfl | exact Or.inr rfl) (pe_dget hu (pv 0) pe_str (fun _ _ => rfl)))
  (pss_cons (ps_if (pt_cmpR op_gt (pv 3) pe_int (nomark _))
     (pss_cons (ps_dput hu (pv 0) pe_str (pe_op op_fdivW (pv 3) (pv 1)) (by rfl))
      (pss_one (ps_ret (pe_op op_mod (pe_callTy call_int1 (by rfl) W.T.b_int (by decide +kernel) (pa_cons (pv 3) pa_nil)) (pv 1)))))
     pss_nil)
  (pss_cons (ps_dput hu (pv 0) pe_str (pe_op op_add (pe_dget hu (pv 0) pe_str (fun _ _ => rfl)) pe_int) (by rfl))
  (pss_cons (ps_set (i := 4) nd rfl (by first | exact Or.inl rfl | exact Or.inr rfl) (pe_dget hu (pv 0) pe_str (fun _ _ => rfl)))
  (pss_cons (ps_set (i := 5) nd rfl (by first | exact Or.inl rfl | exact Or.inr rfl) (pe_op op_mod (pe_callTy call_int1 (by rfl) W.T.b_int (by decide +kernel) (pa_cons (pe_op op_add (pe_dget hu (pv 0) pe_str (fun _ _ => rfl)) (pe_op op_mulK (pv 4) pe_int)) pa_nil)) pe_int))
  (pss_cons (ps_set (i := 5) nd rfl (by first | exact Or.inl rfl | exact Or.inr rfl) (pe_op op_mod (pe_callTy call_int1 (by rfl) W.T.b_int (by decide +kernel) (pa_cons (pe_op op_add (pe_op op_mulK (pv 5) (pv 5)) (pe_op op_mulK (pv 4) pe_int)) pa_nil)) pe_int))
  (pss_one (ps_ret (pe_op op_mod (pe_callTy call_int1 (by rfl) W.T.b_int (by decide +kernel) (pa_cons (pe_op op_fdivW (pv 5) pe_int) pa_nil)) (pv 1))))))))))))), ?_⟩
    simp only [tSeq, tIfS, tNext, tRet, tRetN, tAsg, tDrop, tPar, tCons, tNil, tCB, tVar, tC, tOp, rI, rI0, rU, tTest, tB, tTup, tLst, gName, tIf, tAnd, tOr, tNot, tAndV, tOrV, tNotV, tUn, tCall, tChain, tSl, tNoPart, tPart, tBM, tBM0, tDGet, sDPut, tAugS, ipI, tAug, rIxT, rIxL, rMulK, rLenK, rLstK, tTruK, gTup, gCons, gNil, rEq, rNe, scal, tNever, rMulK, rGcd, L2.start, List.map, List.length, List.replicate, List.cons_append, List.nil_append, List.append_nil, List.set, List.set_cons_zero, List.set_cons_succ, List.getElem?_cons_succ, List.getElem?_cons_zero, Option.some.injEq, List.cons.injEq, V.int.injEq, V.str.injEq, V.bl.injEq, V.ref.injEq, and_true, true_and, exists_eq_left, exists_eq_left', exists_eq_right, exists_eq_right', exists_eq, exists_and_left, exists_and_right, and_assoc, exists_false, false_and, and_false, or_false, false_or, reduceCtorEq, Nat.reduceAdd, Nat.reduceSub, List.append_assoc, eq_self, if_true, if_false, Bool.false_eq_true, decide_eq_true_eq, List.length_cons, List.length_nil]
    obtain ⟨cs, l, m, t, hd, hc, hcs, hcl, hl0, hm0, hm1⟩ := hS.ex
    refine ite2 (fun h2 => ?_) (fun h2 => ?_)
    · exact k 0 H (by omega) (Or.inr rfl) (Kp.refl H) hS
    have hmost : 2 ≤ most := by simpa using h2
    refine ⟨_, src_c hd, ?_⟩
    refine while_at (fun σ H' => Kp (Mdc d c) H H' ∧ SrcAt H' d c ∧ σ = [some (.ref d), some (.int most), some (.ref c), none, none, none]) (fun _ H' => match H' c with | some (.lst xs) => xs.length | _ => 0) ⟨Kp.refl H, hS, rfl⟩ ?_
    rintro σ H' ⟨k1, hS1, rfl⟩
    clear hd hc hcs hcl hl0 hm0 hm1 cs l m t hS
    obtain ⟨cs, l, m, t, hd, hc, hcs, hcl, hl0, hm0, hm1⟩ := hS1.ex
    simp only [tSeq, tIfS, tNext, tRet, tRetN, tAsg, tDrop, tPar, tCons, tNil, tCB, tVar, tC, tOp, rI, rI0, rU, tTest, tB, tTup, tLst, gName, tIf, tAnd, tOr, tNot, tAndV, tOrV, tNotV, tUn, tCall, tChain, tSl, tNoPart, tPart, tBM, tBM0, tDGet, sDPut, tAugS, ipI, tAug, rIxT, rIxL, rMulK, rLenK, rLstK, tTruK, gTup, gCons, gNil, rEq, rNe, scal, tNever, rMulK, rGcd, L2.start, List.map, List.length, List.replicate, List.cons_append, List.nil_append, List.append_nil, List.set, List.set_cons_zero, List.set_cons_succ, List.getElem?_cons_succ, List.getElem?_cons_zero, Option.some.injEq, List.cons.injEq, V.int.injEq, V.str.injEq, V.bl.injEq, V.ref.injEq, and_true, true_and, exists_eq_left, exists_eq_left', exists_eq_right, exists_eq_right', exists_eq, exists_and_left, exists_and_right, and_assoc, exists_false, false_and, and_false, or_false, false_or, reduceCtorEq, Nat.reduceAdd, Nat.reduceSub, List.append_assoc, eq_self, if_true, if_false, Bool.false_eq_true, decide_eq_true_eq, List.length_cons, List.length_nil]
    refine ⟨_, src_l hd, ?_⟩
    simp only [tSeq, tIfS, tNext, tRet, tRetN, tAsg, tDrop, tPar, tCons, tNil, tCB, tVar, tC, tOp, rI, rI0, rU, tTest, tB, tTup, tLst, gName, tIf, tAnd, tOr, tNot, tAndV, tOrV, tNotV, tUn, tCall, tChain, tSl, tNoPart, tPart, tBM, tBM0, tDGet, sDPut, tAugS, ipI, tAug, rIxT, rIxL, rMulK, rLenK, rLstK, tTruK, gTup, gCons, gNil, rEq, rNe, scal, tNever, rMulK, rGcd, L2.start, List.map, List.length, List.replicate, List.cons_append, List.nil_append, List.append_nil, List.set, List.set_cons_zero, List.set_cons_succ, List.getElem?_cons_succ, List.getElem?_cons_zero, Option.some.injEq, List.cons.injEq, V.int.injEq, V.str.injEq, V.bl.injEq, V.ref.injEq, and_true, true_and, exists_eq_left, exists_eq_left', exists_eq_right, exists_eq_right', exists_eq, exists_and_left, exists_and_right, and_assoc, exists_false, false_and, and_false, or_false, false_or, reduceCtorEq, Nat.reduceAdd, Nat.reduceSub, List.append_assoc, eq_self, if_true, if_false, Bool.false_eq_true, decide_eq_true_eq, List.length_cons, List.length_nil]
    have cSq : SqL K H' c (cs.map V.int) := Or.inl (Or.inl hc)
    refine ite2 (fun g1 => ?_) (fun g1 => ?_)
    · refine ⟨_, Or.inl cSq, ?_⟩
      refine ite2 (fun g2 => ?_) (fun g2 => ?_)
      · refine ⟨_, fun _ _ h => h, Or.inl ⟨rfl, _, cSq⟩, ?_⟩
        have hne : cs ≠ [] := by
          rintro rfl
          simp at g2
        refine ⟨c, _, .int (cs.getLast hne), rfl, rfl, hc, ?_, ?_⟩
        · rw [List.getElem?_map, List.length_map, ← List.getLast?_eq_getElem?, List.getLast?_eq_getLast hne]; rfl
        have hd' : (upd H' c (.lst (cs.map V.int).dropLast)) d = some (.dK (srcD c l m t)) := by rw [upd_ne ndc]; exact hd
        refine ⟨_, put_l hd', ?_⟩
        have hc' : (upd (upd H' c (.lst (cs.map V.int).dropLast)) d (.dK (srcD c (cs.getLast hne) m t))) c = some (.lst (cs.dropLast.map V.int)) := by
          rw [upd_ne ndc.symm, upd_same, List.map_dropLast]
        refine ⟨k1.trans fun b o e n => ?_, ⟨cs.dropLast, _, m, t, upd_same, hc', fun z hz => hcs z ((List.dropLast_sublist cs).subset hz), by rw [List.length_dropLast]; omega, hcs _ (List.getLast_mem hne), hm0, hm1⟩, rfl, ?_⟩
        · rw [upd_ne (fun z => n (Or.inl z)), upd_ne (fun z => n (Or.inr z))]; exact e
        · rw [hc', hc]
          simp only [List.length_map, List.length_dropLast]
          have := List.length_pos_iff.mpr hne
          omega
      · skip
        refine ⟨_, src_l hd, ?_⟩
        simp only [tSeq, tIfS, tNext, tRet, tRetN, tAsg, tDrop, tPar, tCons, tNil, tCB, tVar, tC, tOp, rI, rI0, rU, tTest, tB, tTup, tLst, gName, tIf, tAnd, tOr, tNot, tAndV, tOrV, tNotV, tUn, tCall, tChain, tSl, tNoPart, tPart, tBM, tBM0, tDGet, sDPut, tAugS, ipI, tAug, rIxT, rIxL, rMulK, rLenK, rLstK, tTruK, gTup, gCons, gNil, rEq, rNe, scal, tNever, rMulK, rGcd, L2.start, List.map, List.length, List.replicate, List.cons_append, List.nil_append, List.append_nil, List.set, List.set_cons_zero, List.set_cons_succ, List.getElem?_cons_succ, List.getElem?_cons_zero, Option.some.injEq, List.cons.injEq, V.int.injEq, V.str.injEq, V.bl.injEq, V.ref.injEq, and_true, true_and, exists_eq_left, exists_eq_left', exists_eq_right, exists_eq_right', exists_eq, exists_and_left, exists_and_right, and_assoc, exists_false, false_and, and_false, or_false, false_or, reduceCtorEq, Nat.reduceAdd, Nat.reduceSub, List.append_assoc, eq_self, if_true, if_false, Bool.false_eq_true, decide_eq_true_eq, List.length_cons, List.length_nil]
        refine ite2 (fun g3 => ?_) (fun g3 => ?_)
        · refine ⟨wide_div (by omega) hm (by omega) (by omega), _, put_l hd, by omega, ?_⟩
          have k2 : Kp (Mdc d c) H (upd H' d (.dK (srcD c (l / most) m t))) := k1.trans fun b o e n => by rw [upd_ne (fun z => n (Or.inl z))]; exact e
          refine k _ _ (Int.emod_nonneg _ (by omega)) (Or.inl (Int.emod_lt_of_pos _ (by omega))) k2 ⟨cs, l / most, m, t, upd_same, by rw [upd_ne ndc.symm]; exact hc, hcs, hcl, Int.ediv_nonneg hl0 (by omega), hm0, hm1⟩
        · refine ⟨_, src_t hd, ?_⟩
          simp only [tSeq, tIfS, tNext, tRet, tRetN, tAsg, tDrop, tPar, tCons, tNil, tCB, tVar, tC, tOp, rI, rI0, rU, tTest, tB, tTup, tLst, gName, tIf, tAnd, tOr, tNot, tAndV, tOrV, tNotV, tUn, tCall, tChain, tSl, tNoPart, tPart, tBM, tBM0, tDGet, sDPut, tAugS, ipI, tAug, rIxT, rIxL, rMulK, rLenK, rLstK, tTruK, gTup, gCons, gNil, rEq, rNe, scal, tNever, rMulK, rGcd, L2.start, List.map, List.length, List.replicate, List.cons_append, List.nil_append, List.append_nil, List.set, List.set_cons_zero, List.set_cons_succ, List.getElem?_cons_succ, List.getElem?_cons_zero, Option.some.injEq, List.cons.injEq, V.int.injEq, V.str.injEq, V.bl.injEq, V.ref.injEq, and_true, true_and, exists_eq_left, exists_eq_left', exists_eq_right, exists_eq_right', exists_eq, exists_and_left, exists_and_right, and_assoc, exists_false, false_and, and_false, or_false, false_or, reduceCtorEq, Nat.reduceAdd, Nat.reduceSub, List.append_assoc, eq_self, if_true, if_false, Bool.false_eq_true, decide_eq_true_eq, List.length_cons, List.length_nil]
          refine ⟨_, put_t hd, _, src_t upd_same, _, src_m upd_same, ?_⟩
          simp only [tSeq, tIfS, tNext, tRet, tRetN, tAsg, tDrop, tPar, tCons, tNil, tCB, tVar, tC, tOp, rI, rI0, rU, tTest, tB, tTup, tLst, gName, tIf, tAnd, tOr, tNot, tAndV, tOrV, tNotV, tUn, tCall, tChain, tSl, tNoPart, tPart, tBM, tBM0, tDGet, sDPut, tAugS, ipI, tAug, rIxT, rIxL, rMulK, rLenK, rLstK, tTruK, gTup, gCons, gNil, rEq, rNe, scal, tNever, rMulK, rGcd, L2.start, List.map, List.length, List.replicate, List.cons_append, List.nil_append, List.append_nil, List.set, List.set_cons_zero, List.set_cons_succ, List.getElem?_cons_succ, List.getElem?_cons_zero, Option.some.injEq, List.cons.injEq, V.int.injEq, V.str.injEq, V.bl.injEq, V.ref.injEq, and_true, true_and, exists_eq_left, exists_eq_left', exists_eq_right, exists_eq_right', exists_eq, exists_and_left, exists_and_right, and_assoc, exists_false, false_and, and_false, or_false, false_or, reduceCtorEq, Nat.reduceAdd, Nat.reduceSub, List.append_assoc, eq_self, if_true, if_false, Bool.false_eq_true, decide_eq_true_eq, List.length_cons, List.length_nil]
          have b1 : 0 ≤ (m + t * 104729) % 998244353 := Int.emod_nonneg _ (by omega)
          have b2 : (m + t * 104729) % 998244353 < 998244353 := Int.emod_lt_of_pos _ (by omega)
          have b1' : 0 ≤ (m + (t + 1) * 104729) % 998244353 := Int.emod_nonneg _ (by omega)
          have b2' : (m + (t + 1) * 104729) % 998244353 < 998244353 := Int.emod_lt_of_pos _ (by omega)
          refine ⟨mulOk_r (by omega) (by omega), by omega, mulOk_r (by omega) (by omega), mulOk_r (by omega) (by omega), by omega, wide_div (b := 10) (by omega) (by decide) (by omega) (by omega), by omega, ?_⟩
          have k2 : Kp (Mdc d c) H (upd H' d (.dK (srcD c l m (t + 1)))) := k1.trans fun b o e n => by rw [upd_ne (fun z => n (Or.inl z))]; exact e
          refine k _ _ (Int.emod_nonneg _ (by omega)) (Or.inl (Int.emod_lt_of_pos _ (by omega))) k2 ⟨cs, l, m, t + 1, upd_same, by rw [upd_ne ndc.symm]; exact hc, hcs, hcl, hl0, hm0, hm1⟩
    · skip
      refine ⟨_, src_l hd, ?_⟩
      simp only [tSeq, tIfS, tNext, tRet, tRetN, tAsg, tDrop, tPar, tCons, tNil, tCB, tVar, tC, tOp, rI, rI0, rU, tTest, tB, tTup, tLst, gName, tIf, tAnd, tOr, tNot, tAndV, tOrV, tNotV, tUn, tCall, tChain, tSl, tNoPart, tPart, tBM, tBM0, tDGet, sDPut, tAugS, ipI, tAug, rIxT, rIxL, rMulK, rLenK, rLstK, tTruK, gTup, gCons, gNil, rEq, rNe, scal, tNever, rMulK, rGcd, L2.start, List.map, List.length, List.replicate, List.cons_append, List.nil_append, List.append_nil, List.set, List.set_cons_zero, List.set_cons_succ, List.getElem?_cons_succ, List.getElem?_cons_zero, Option.some.injEq, List.cons.injEq, V.int.injEq, V.str.injEq, V.bl.injEq, V.ref.injEq, and_true, true_and, exists_eq_left, exists_eq_left', exists_eq_right, exists_eq_right', exists_eq, exists_and_left, exists_and_right, and_assoc, exists_false, false_and, and_false, or_false, false_or, reduceCtorEq, Nat.reduceAdd, Nat.reduceSub, List.append_assoc, eq_self, if_true, if_false, Bool.false_eq_true, decide_eq_true_eq, List.length_cons, List.length_nil]
      refine ite2 (fun g3 => ?_) (fun g3 => ?_)
      · refine ⟨wide_div (by omega) hm (by omega) (by omega), _, put_l hd, by omega, ?_⟩
        have k2 : Kp (Mdc d c) H (upd H' d (.dK (srcD c (l / most) m t))) := k1.trans fun b o e n => by rw [upd_ne (fun z => n (Or.inl z))]; exact e
        refine k _ _ (Int.emod_nonneg _ (by omega)) (Or.inl (Int.emod_lt_of_pos _ (by omega))) k2 ⟨cs, l / most, m, t, upd_same, by rw [upd_ne ndc.symm]; exact hc, hcs, hcl, Int.ediv_nonneg hl0 (by omega), hm0, hm1⟩
      · refine ⟨_, src_t hd, ?_⟩
        simp only [tSeq, tIfS, tNext, tRet, tRetN, tAsg, tDrop, tPar, tCons, tNil, tCB, tVar, tC, tOp, rI, rI0, rU, tTest, tB, tTup, tLst, gName, tIf, tAnd, tOr, tNot, tAndV, tOrV, tNotV, tUn, tCall, tChain, tSl, tNoPart, tPart, tBM, tBM0, tDGet, sDPut, tAugS, ipI, tAug, rIxT, rIxL, rMulK, rLenK, rLstK, tTruK, gTup, gCons, gNil, rEq, rNe, scal, tNever, rMulK, rGcd, L2.start, List.map, List.length, List.replicate, List.cons_append, List.nil_append, List.append_nil, List.set, List.set_cons_zero, List.set_cons_succ, List.getElem?_cons_succ, List.getElem?_cons_zero, Option.some.injEq, List.cons.injEq, V.int.injEq, V.str.injEq, V.bl.injEq, V.ref.injEq, and_true, true_and, exists_eq_left, exists_eq_left', exists_eq_right, exists_eq_right', exists_eq, exists_and_left, exists_and_right, and_assoc, exists_false, false_and, and_false, or_false, false_or, reduceCtorEq, Nat.reduceAdd, Nat.reduceSub, List.append_assoc, eq_self, if_true, if_false, Bool.false_eq_true, decide_eq_true_eq, List.length_cons, List.length_nil]
        refine ⟨_, put_t hd, _, src_t upd_same, _, src_m upd_same, ?_⟩
        simp only [tSeq, tIfS, tNext, tRet, tRetN, tAsg, tDrop, tPar, tCons, tNil, tCB, tVar, tC, tOp, rI, rI0, rU, tTest, tB, tTup, tLst, gName, tIf, tAnd, tOr, tNot, tAndV, tOrV, tNotV, tUn, tCall, tChain, tSl, tNoPart, tPart, tBM, tBM0, tDGet, sDPut, tAugS, ipI, tAug, rIxT, rIxL, rMulK, rLenK, rLstK, tTruK, gTup, gCons, gNil, rEq, rNe, scal, tNever, rMulK, rGcd, L2.start, List.map, List.length, List.replicate, List.cons_append, List.nil_append, List.append_nil, List.set, List.set_cons_zero, List.set_cons_succ, List.getElem?_cons_succ, List.getElem?_cons_zero, Option.some.injEq, List.cons.injEq, V.int.injEq, V.str.injEq, V.bl.injEq, V.ref.injEq, and_true, true_and, exists_eq_left, exists_eq_left', exists_eq_right, exists_eq_right', exists_eq, exists_and_left, exists_and_right, and_assoc, exists_false, false_and, and_false, or_false, false_or, reduceCtorEq, Nat.reduceAdd, Nat.reduceSub, List.append_assoc, eq_self, if_true, if_false, Bool.false_eq_true, decide_eq_true_eq, List.length_cons, List.length_nil]
        have b1 : 0 ≤ (m + t * 104729) % 998244353 := Int.emod_nonneg _ (by omega)
        have b2 : (m + t * 104729) % 998244353 < 998244353 := Int.emod_lt_of_pos _ (by omega)
        have b1' : 0 ≤ (m + (t + 1) * 104729) % 998244353 := Int.emod_nonneg _ (by omega)
        have b2' : (m + (t + 1) * 104729) % 998244353 < 998244353 := Int.emod_lt_of_pos _ (by omega)
        refine ⟨mulOk_r (by omega) (by omega), by omega, mulOk_r (by omega) (by omega), mulOk_r (by omega) (by omega), by omega, wide_div (b := 10) (by omega) (by decide) (by omega) (by omega), by omega, ?_⟩
        have k2 : Kp (Mdc d c) H (upd H' d (.dK (srcD c l m (t + 1)))) := k1.trans fun b o e n => by rw [upd_ne (fun z => n (Or.inl z))]; exact e
        refine k _ _ (Int.emod_nonneg _ (by omega)) (Or.inl (Int.emod_lt_of_pos _ (by omega))) k2 ⟨cs, l, m, t + 1, upd_same, by rw [upd_ne ndc.symm]; exact hc, hcs, hcl, hl0, hm0, hm1⟩
end
end G
set_option Elab.async false
set_option linter.all false
set_option maxRecDepth 100000
set_option exponentiation.threshold 10000
namespace G
open PySem L2 LamX
section
variable {P : Program} {w : World} {K : PySem.W.Frag} {mg : Str → Option Value} {base : Heap}
/-! ### _law_point -/
def sp__law_point (K : PySem.W.Frag) : Sp := fun vs H Q _ => ∃ p q : Int, vs = [.int p, .int q] ∧ 0 < q ∧ q.natAbs < 2 ^ 8000 ∧
  ∀ (v : V) (H' : Hp), Kp M0 H H' → Dp K H' v (ptD (normP p q)) → Q v H'
theorem ok__law_point (W : Ds K mg) : FnOk P w K mg base CX0 1 W.f__law_point W.fd__law_point P__law_point (sp__law_point K) := by
  refine W.D__law_point.F.ok sc__law_point (fun vs H Q E h => ?len) (fun cdv A outer s H vs Q E hr h => ?body)
  case len =>
    obtain ⟨p, q, rfl, _⟩ := h
    rfl
  case body =>
    obtain ⟨p, q, rfl, hq, hb, k⟩ := h
    have nd := sc__law_point.nd
    have hu := hu_of hr
    have hu64 := hr.units
    have hu65 := hu65_of hr
    refine ⟨_, (pss_cons (ps_par (i := 2) (j := 3) rfl nd rfl rfl (by decide) rfl rfl (pa_cons (pe_callB call_abs (by rfl) W.T.b_abs (by decide +kernel) (pa_cons (pv 0) pa_nil)) (pa_cons (pv 1) pa_nil)) (by rfl))
  (pss_cons (ps_while PassesOwn.never (pt_cmpR op_gt (pv 3) pe_int (nomark _))
     (pss_one (ps_par (i := 2) (j := 3) rfl nd rfl rfl (by decide) rfl rfl (pa_cons (pv 3) (pa_cons (pe_op op_mod (pe_callTy call_int1 (by rfl) W.T.b_int (by decide +kernel) (pa_cons (pv 2) pa_nil)) (pv 3)) pa_nil)) (by rfl))))
  (pss_one (ps_ret (pe_tup (pa_cons (pe_op op_fdivW (pv 0) (pv 2)) (pa_cons (pe_op op_fdivW (pv 1) (pv 2)) pa_nil))))))), ?_⟩
    simp only [tSeq, tIfS, tNext, tRet, tRetN, tAsg, tDrop, tPar, tCons, tNil, tCB, tVar, tC, tOp, rI, rI0, rU, tTest, tB, tTup, tLst, gName, tIf, tAnd, tOr, tNot, tAndV, tOrV, tNotV, tUn, tCall, tChain, tSl, tNoPart, tPart, tBM, tBM0, tDGet, sDPut, tAugS, ipI, tAug, rIxT, rIxL, rMulK, rLenK, rLstK, tTruK, gTup, gCons, gNil, rEq, rNe, scal, tNever, rMulK, rGcd, L2.start, List.map, List.length, List.replicate, List.cons_append, List.nil_append, List.append_nil, List.set, List.set_cons_zero, List.set_cons_succ, List.getElem?_cons_succ, List.getElem?_cons_zero, Option.some.injEq, List.cons.injEq, V.int.injEq, V.str.injEq, V.bl.injEq, V.ref.injEq, and_true, true_and, exists_eq_left, exists_eq_left', exists_eq_right, exists_eq_right', exists_eq, exists_and_left, exists_and_right, and_assoc, exists_false, false_and, and_false, or_false, false_or, reduceCtorEq, Nat.reduceAdd, Nat.reduceSub, List.append_assoc, eq_self, if_true, if_false, Bool.false_eq_true, decide_eq_true_eq, List.length_cons, List.length_nil]
    refine while_at (fun σ H' => H' = H ∧ ∃ a b : Int, σ = [some (.int p), some (.int q), some (.int a), some (.int b)] ∧ 0 ≤ a ∧ 0 ≤ b ∧ Int.gcd a b = Int.gcd p q) (fun σ _ => match σ with | [_, _, _, some (.int b)] => b.toNat | _ => 0) ⟨rfl, _, q, rfl, ?_, by omega, ?_⟩ ?_
    · split <;> omega
    · split <;> simp
    · rintro σ H' ⟨rfl, a, b, rfl, ha, hb0, hg⟩
      simp only [tSeq, tIfS, tNext, tRet, tRetN, tAsg, tDrop, tPar, tCons, tNil, tCB, tVar, tC, tOp, rI, rI0, rU, tTest, tB, tTup, tLst, gName, tIf, tAnd, tOr, tNot, tAndV, tOrV, tNotV, tUn, tCall, tChain, tSl, tNoPart, tPart, tBM, tBM0, tDGet, sDPut, tAugS, ipI, tAug, rIxT, rIxL, rMulK, rLenK, rLstK, tTruK, gTup, gCons, gNil, rEq, rNe, scal, tNever, rMulK, rGcd, L2.start, List.map, List.length, List.replicate, List.cons_append, List.nil_append, List.append_nil, List.set, List.set_cons_zero, List.set_cons_succ, List.getElem?_cons_succ, List.getElem?_cons_zero, Option.some.injEq, List.cons.injEq, V.int.injEq, V.str.injEq, V.bl.injEq, V.ref.injEq, and_true, true_and, exists_eq_left, exists_eq_left', exists_eq_right, exists_eq_right', exists_eq, exists_and_left, exists_and_right, and_assoc, exists_false, false_and, and_false, or_false, false_or, reduceCtorEq, Nat.reduceAdd, Nat.reduceSub, List.append_assoc, eq_self, if_true, if_false, Bool.false_eq_true, decide_eq_true_eq, List.length_cons, List.length_nil]
      have hgp := gcd_pos' (p := p) hq
      have hgl : Int.gcd p q ≤ q.natAbs := Int.gcd_le_natAbs_right p (by omega)
      refine ite2 (fun hc => ?_) (fun hc => ?_)
      · have h1 := Int.emod_nonneg a (show b ≠ 0 by omega)
        have h2 := Int.emod_lt_of_pos a hc
        refine ⟨_, fun _ _ h => h, by omega, rfl, ⟨b, a % b, rfl, hb0, h1, ?_⟩, ?_⟩
        · rw [← hg]; exact gcd_step ha hb0
        · show (a % b).toNat < b.toNat
          omega
      · have hb00 : b = 0 := by omega
        subst hb00
        have ha' : a = (Int.gcd p q : Int) := by
          rw [Int.gcd_zero_right] at hg
          omega
        have hw : CDivW p a := by
          rw [ha']
          exact wide_div hgp (b := 8000) (by rw [Int.natAbs_natCast]; omega) (by omega) (by omega)
        refine ⟨hw, hw, by decide, fun t ht => ?_⟩
        refine k _ _ (Kp.new ht) ?_
        rw [ha']
        exact pt_mk upd_same

/-! ### comparing -/
def sp_lt (K : PySem.W.Frag) : Sp := fun vs H Q _ => ∃ (v u : V) (x y : Pt), vs = [v, u] ∧ Dp K H v (ptD x) ∧ Dp K H u (ptD y) ∧ Sz 4000 x ∧ Sz 4000 y ∧ Q (.bl (decide (ltP x y))) H
abbrev sp__law_less := sp_lt
abbrev sp_is_before := sp_lt
theorem ok__law_less (W : Ds K mg) : FnOk P w K mg base CX0 1 W.f__law_less W.fd__law_less P__law_less (sp__law_less K) := by
  refine W.D__law_less.F.ok sc__law_less (fun vs H Q E h => ?len) (fun cdv A outer s H vs Q E hr h => ?body)
  case len =>
    obtain ⟨v, u, x, y, rfl, _⟩ := h
    rfl
  case body =>
    obtain ⟨v, u, x, y, rfl, hx, hy, sx, sy, k⟩ := h
    obtain ⟨a, rfl, ha⟩ := pt_of hx
    obtain ⟨b, rfl, hb⟩ := pt_of hy
    have nd := sc__law_less.nd
    have hu := hu_of hr
    have hu64 := hr.units
    have hu65 := hu65_of hr
    refine ⟨_, (pss_one (ps_ret (pe_cmpR op_lt (pe_op op_mulK (pe_ix (k_ixT K) (pv 0) pe_int (fun _ _ => rfl)) (pe_ix (k_ixT K) (pv 1) pe_int (fun _ _ => rfl))) (pe_op op_mulK (pe_ix (k_ixT K) (pv 1) pe_int (fun _ _ => rfl)) (pe_ix (k_ixT K) (pv 0) pe_int (fun _ _ => rfl))) (nomark _)))), ?_⟩
    simp only [tSeq, tIfS, tNext, tRet, tRetN, tAsg, tDrop, tPar, tCons, tNil, tCB, tVar, tC, tOp, rI, rI0, rU, tTest, tB, tTup, tLst, gName, tIf, tAnd, tOr, tNot, tAndV, tOrV, tNotV, tUn, tCall, tChain, tSl, tNoPart, tPart, tBM, tBM0, tDGet, sDPut, tAugS, ipI, tAug, rIxT, rIxL, rMulK, rLenK, rLstK, tTruK, gTup, gCons, gNil, rEq, rNe, scal, tNever, rMulK, rGcd, L2.start, List.map, List.length, List.replicate, List.cons_append, List.nil_append, List.append_nil, List.set, List.set_cons_zero, List.set_cons_succ, List.getElem?_cons_succ, List.getElem?_cons_zero, Option.some.injEq, List.cons.injEq, V.int.injEq, V.str.injEq, V.bl.injEq, V.ref.injEq, and_true, true_and, exists_eq_left, exists_eq_left', exists_eq_right, exists_eq_right', exists_eq, exists_and_left, exists_and_right, and_assoc, exists_false, false_and, and_false, or_false, false_or, reduceCtorEq, Nat.reduceAdd, Nat.reduceSub, List.append_assoc, eq_self, if_true, if_false, Bool.false_eq_true, decide_eq_true_eq, List.length_cons, List.length_nil]
    refine ⟨_, ha, _, rfl, _, hb, _, rfl, _, rfl, _, rfl, mulOk_w sx.1 sy.2 (by omega) (by omega) (by omega), _, hb, _, rfl, _, ha, _, rfl, _, rfl, _, rfl, mulOk_w sy.1 sx.2 (by omega) (by omega) (by omega), k⟩

/-! ### _law_ascending -/
theorem asc_snoc (l : List Pt) (x : Pt) : ascP (l ++ [x]) = insP (ascP l) x := by unfold ascP; rw [List.foldl_append]; rfl
theorem filter_pts (l : List Pt) (x : Pt) : ((l.map ptD).filter fun d => match d with | .tuple [.int p, .int q] => decide (ltP (p, q) x) | _ => false) = (l.filter fun y => decide (ltP y x)).map ptD := by
  rw [List.filter_map]; rfl
theorem slFrom {K : PySem.W.Frag} {H : Hp} {a : Addr} {xs : List V} {n : Nat} {Q : VK} (hs : SqL K H a xs) (hn : n ≤ xs.length) (q : ∀ p, H p = none → Q (.ref p) (upd H p (.lst (xs.drop n)))) : rSlL K (.ref a) (some ((n : Nat) : Int)) none H Q :=
  slL hs (l := n) (h := xs.length) (by rw [HT.sIx_nat]; omega) rfl fun p hp => by
    have z := q p hp
    rw [List.take_of_length_le (by rw [List.length_drop]; omega)]; exact z
theorem slTo {K : PySem.W.Frag} {H : Hp} {a : Addr} {xs : List V} {n : Nat} {Q : VK} (hs : SqL K H a xs) (q : ∀ p, H p = none → Q (.ref p) (upd H p (.lst (xs.take n)))) : rSlL K (.ref a) none (some ((n : Nat) : Int)) H Q :=
  slL hs (l := 0) (h := min n xs.length) rfl (by rw [HT.sIx_nat]) fun p hp => by
    have z := q p hp
    rw [List.drop_zero, Nat.sub_zero]
    by_cases c : n ≤ xs.length
    · rw [Nat.min_eq_left c]; exact z
    · rw [Nat.min_eq_right (by omega), List.take_length]
      rw [List.take_of_length_le (by omega)] at z; exact z
def sp__law_ascending (K : PySem.W.Frag) : Sp := fun vs H Q _ => ∃ (a : Addr) (ws : List V) (l : List Pt), vs = [.ref a] ∧ SqL K H a ws ∧ DpAll K H ws (l.map ptD) ∧ (∀ x ∈ l, PtOk x ∧ Sz 4000 x) ∧ l.length < 100000 ∧
  ∀ (D : Addr) (H' : Hp) (us : List V), H D = none → Kp M0 H H' → H' D = some (.lst us) → DpAll K H' us ((ascP l).map ptD) → Q (.ref D) H'
def AscI (K : PySem.W.Frag) (a : Addr) (l : List Pt) (H : Hp) (i : Nat) (σ : L2.St) (H' : Hp) : Prop := ∃ (p : Addr) (us : List V) (v2 v4 : Option V), σ = [some (.ref a), some (.ref p), v2, none, v4] ∧ Kp M0 H H' ∧ H p = none ∧ H' p = some (.lst us) ∧ DpAll K H' us ((ascP (l.take i)).map ptD)
theorem ok__law_ascending (W : Ds K mg) : FnOk P w K mg base CX0 2 W.f__law_ascending W.fd__law_ascending P__law_ascending (sp__law_ascending K) := by
  refine W.D__law_ascending.F.ok sc__law_ascending (fun vs H Q E h => ?len) (fun cdv A outer s H vs Q E hr h => ?body)
  case len =>
    obtain ⟨a, ws, l, rfl, _⟩ := h
    rfl
  case body =>
    obtain ⟨a, ws, l, rfl, hT, hws, hl, hlen, k⟩ := h
    have nd := sc__law_ascending.nd
    have hu := hu_of hr
    have hu64 := hr.units
    have hu65 := hu65_of hr
    refine ⟨_, (pss_cons (ps_set (i := 1) nd rfl (by first | exact Or.inl rfl | exact Or.inr rfl) (pe_lst pa_nil))
  (pss_cons (ps_for PassesOwn.never rfl (i_list K (pv 0)) (pg_name (i := 2) nd rfl (by first | exact Or.inl rfl | exact Or.inr rfl))
     (pss_one (ps_if (pt_cmpR (k_notInD K hu65) (pv 2) (pv 1) (by with_unfolding_all rfl))
         (pss_cons (ps_setLc (i := 4) (own := [("one", 3)]) rfl nd rfl rfl (sw_true rfl rfl rfl (by decide +kernel)) (i_list K (pv 1)) (blkOk_by (N := N__law_ascending) (sc := defScope s__law_ascending) (by decide +kernel)) (fun _ _ _ _ _ => (pg_name (i := 3) nd rfl (by first | exact Or.inl rfl | exact Or.inr rfl))) (fun _ _ _ _ _ => (pts_one (pt_val (pe_call (ok__law_less W) (hr.mono (by first | decide | omega)) rfl W.D__law_less.g W.D__law_less.F.kp W.D__law_less.b .nil pass0 (pa_cons (pv 3) (pa_cons (pv 2) pa_nil)))))) (fun _ _ _ _ _ => (pv 3)))
          (pss_one (ps_set (i := 1) nd rfl (by first | exact Or.inl rfl | exact Or.inr rfl) (pe_op op_cat (pe_op op_cat (pv 4) (pe_lst (pa_cons (pv 2) pa_nil))) (pe_slice (k_slL K) (pv 1) (po_some (pe_callB (c_len K) (by rfl) W.T.b_len (by decide +kernel) (pa_cons (pv 4) pa_nil))) po_none)))))
         pss_nil)))
  (pss_one (ps_ret (pv 1))))), ?_⟩
    simp only [tSeq, tIfS, tNext, tRet, tRetN, tAsg, tDrop, tPar, tCons, tNil, tCB, tVar, tC, tOp, rI, rI0, rU, tTest, tB, tTup, tLst, gName, tIf, tAnd, tOr, tNot, tAndV, tOrV, tNotV, tUn, tCall, tChain, tSl, tNoPart, tPart, tBM, tBM0, tDGet, sDPut, tAugS, ipI, tAug, rIxT, rIxL, rMulK, rLenK, rLstK, tTruK, gTup, gCons, gNil, rEq, rNe, scal, tNever, rMulK, rGcd, L2.start, List.map, List.length, List.replicate, List.cons_append, List.nil_append, List.append_nil, List.set, List.set_cons_zero, List.set_cons_succ, List.getElem?_cons_succ, List.getElem?_cons_zero, Option.some.injEq, List.cons.injEq, V.int.injEq, V.str.injEq, V.bl.injEq, V.ref.injEq, and_true, true_and, exists_eq_left, exists_eq_left', exists_eq_right, exists_eq_right', exists_eq, exists_and_left, exists_and_right, and_assoc, exists_false, false_and, and_false, or_false, false_or, reduceCtorEq, Nat.reduceAdd, Nat.reduceSub, List.append_assoc, eq_self, if_true, if_false, Bool.false_eq_true, decide_eq_true_eq, List.length_cons, List.length_nil]
    have wlen : ws.length = l.length := by rw [dps_len hws, List.length_map]
    refine ⟨by decide, fun p hp => tforL ?_⟩
    refine ⟨_, rfl, a, rfl, ⟨ws, (Kp.new hp).same.seq hT⟩, for_list (K := K) (a := a) (xs := ws) (AscI K a l H) ⟨p, [], none, none, rfl, Kp.new hp, hp, upd_same, .nil⟩ ?_ ?_ ?_⟩
    · rintro i σ H' _ ⟨p, us, v2, v4, rfl, k1, _⟩
      exact k1.same.seq hT
    · rintro i x σ H' hi ⟨p, us, v2, v4, rfl, k1, hp, hp', hus⟩
      simp only [tSeq, tIfS, tNext, tRet, tRetN, tAsg, tDrop, tPar, tCons, tNil, tCB, tVar, tC, tOp, rI, rI0, rU, tTest, tB, tTup, tLst, gName, tIf, tAnd, tOr, tNot, tAndV, tOrV, tNotV, tUn, tCall, tChain, tSl, tNoPart, tPart, tBM, tBM0, tDGet, sDPut, tAugS, ipI, tAug, rIxT, rIxL, rMulK, rLenK, rLstK, tTruK, gTup, gCons, gNil, rEq, rNe, scal, tNever, rMulK, rGcd, L2.start, List.map, List.length, List.replicate, List.cons_append, List.nil_append, List.append_nil, List.set, List.set_cons_zero, List.set_cons_succ, List.getElem?_cons_succ, List.getElem?_cons_zero, Option.some.injEq, List.cons.injEq, V.int.injEq, V.str.injEq, V.bl.injEq, V.ref.injEq, and_true, true_and, exists_eq_left, exists_eq_left', exists_eq_right, exists_eq_right', exists_eq, exists_and_left, exists_and_right, and_assoc, exists_false, false_and, and_false, or_false, false_or, reduceCtorEq, Nat.reduceAdd, Nat.reduceSub, List.append_assoc, eq_self, if_true, if_false, Bool.false_eq_true, decide_eq_true_eq, List.length_cons, List.length_nil]
      obtain ⟨d, e1, dx⟩ := dps_get (pts_tk hws (Tk.of0 k1)) hi
      rw [List.getElem?_map] at e1
      cases e2 : l[i]? with
      | none => rw [e2] at e1; cases e1
      | some pt =>
        rw [e2] at e1
        cases e1
        have ml := List.mem_of_getElem? e2
        obtain ⟨opt, spt⟩ := hl pt ml
        have ht : ∀ y ∈ l.take i, PtOk y ∧ Sz 4000 y := fun y hy => hl y (List.mem_of_mem_take hy)
        have aok := asc_ok ht
        have alen : (ascP (l.take i)).length < 100000 := Nat.lt_of_le_of_lt (asc_le ht) (by rw [List.length_take]; omega)
        have next : ascP (l.take (i + 1)) = insP (ascP (l.take i)) pt := by rw [take_snoc e2, asc_snoc]
        refine ⟨_, _, dx.up, .lst (sqL_mk hp') hus.up, ptD_shaped _, ptL_shaped _, ?_⟩
        rw [any_pt]
        refine ⟨_, rfl, ite2 (fun c => ?_) (fun c => ?_)⟩
        · have nm : pt ∉ ascP (l.take i) := by simpa using c
          refine tlcL ?_
          refine ⟨_, rfl, lcL ((ascP (l.take i)).map ptD) (fun d => match d with | .tuple [.int p, .int q] => decide (ltP (p, q) pt) | _ => false) id (by rw [List.length_map, sizeLine_eq]; omega) (sqL_mk hp') hus (ptDs_tup _) (fun d h _ => tupDs_all.mp (ptDs_tup _) d h) (fun j d y H1 e dy k2 Q' q => ?_) (fun j d y H1 e _ dy k2 Q' q => ⟨y, rfl, q _ _ (Kp.refl _) dy⟩) fun D H1 vs hD k2 hd1 ha => ?_⟩
          · obtain ⟨z, hz, rfl⟩ := List.mem_map.mp (List.mem_of_getElem? e)
            simp only [tSeq, tIfS, tNext, tRet, tRetN, tAsg, tDrop, tPar, tCons, tNil, tCB, tVar, tC, tOp, rI, rI0, rU, tTest, tB, tTup, tLst, gName, tIf, tAnd, tOr, tNot, tAndV, tOrV, tNotV, tUn, tCall, tChain, tSl, tNoPart, tPart, tBM, tBM0, tDGet, sDPut, tAugS, ipI, tAug, rIxT, rIxL, rMulK, rLenK, rLstK, tTruK, gTup, gCons, gNil, rEq, rNe, scal, tNever, rMulK, rGcd, L2.start, List.map, List.length, List.replicate, List.cons_append, List.nil_append, List.append_nil, List.set, List.set_cons_zero, List.set_cons_succ, List.getElem?_cons_succ, List.getElem?_cons_zero, Option.some.injEq, List.cons.injEq, V.int.injEq, V.str.injEq, V.bl.injEq, V.ref.injEq, and_true, true_and, exists_eq_left, exists_eq_left', exists_eq_right, exists_eq_right', exists_eq, exists_and_left, exists_and_right, and_assoc, exists_false, false_and, and_false, or_false, false_or, reduceCtorEq, Nat.reduceAdd, Nat.reduceSub, List.append_assoc, eq_self, if_true, if_false, Bool.false_eq_true, decide_eq_true_eq, List.length_cons, List.length_nil]
            refine ⟨y, x, z, pt, rfl, dy, dp_tk (Tk.of0 k2) _ _ (ptD_tup _) dx, (aok.sz z hz), spt, ?_⟩
            exact ⟨_, rfl, q _ (Kp.refl _)⟩
          · simp only [tSeq, tIfS, tNext, tRet, tRetN, tAsg, tDrop, tPar, tCons, tNil, tCB, tVar, tC, tOp, rI, rI0, rU, tTest, tB, tTup, tLst, gName, tIf, tAnd, tOr, tNot, tAndV, tOrV, tNotV, tUn, tCall, tChain, tSl, tNoPart, tPart, tBM, tBM0, tDGet, sDPut, tAugS, ipI, tAug, rIxT, rIxL, rMulK, rLenK, rLstK, tTruK, gTup, gCons, gNil, rEq, rNe, scal, tNever, rMulK, rGcd, L2.start, List.map, List.length, List.replicate, List.cons_append, List.nil_append, List.append_nil, List.set, List.set_cons_zero, List.set_cons_succ, List.getElem?_cons_succ, List.getElem?_cons_zero, Option.some.injEq, List.cons.injEq, V.int.injEq, V.str.injEq, V.bl.injEq, V.ref.injEq, and_true, true_and, exists_eq_left, exists_eq_left', exists_eq_right, exists_eq_right', exists_eq, exists_and_left, exists_and_right, and_assoc, exists_false, false_and, and_false, or_false, false_or, reduceCtorEq, Nat.reduceAdd, Nat.reduceSub, List.append_assoc, eq_self, if_true, if_false, Bool.false_eq_true, decide_eq_true_eq, List.length_cons, List.length_nil]
            rw [filter_pts, List.map_id] at ha
            have vl : vs.length = (lowP (ascP (l.take i)) pt).length := by rw [dps_len ha, List.length_map]; rfl
            have ul : us.length = (ascP (l.take i)).length := by rw [dps_len hus, List.length_map]
            have vle : vs.length ≤ us.length := by rw [vl, ul]; exact List.length_filter_le _ _
            have hp1 := k2 p _ hp' (fun z => z)
            refine ⟨by decide, fun q1 hq1 => ?_⟩
            have n1D : D ≠ q1 := ne_of_none hd1 hq1
            have n1p : p ≠ q1 := ne_of_none hp1 hq1
            refine ⟨D, q1, vs, [x], rfl, rfl, by rw [upd_ne n1D]; exact hd1, upd_same, by rw [sizeLine_eq]; simp; omega, fun q2 hq2 => ?_⟩
            have e2D : upd (upd H1 q1 (.lst [x])) q2 (.lst (vs ++ [x])) D = some (.lst vs) := by rw [upd_ne (ne_of_none (by rw [upd_ne n1D]; exact hd1) hq2), upd_ne n1D]; exact hd1
            have e2p : upd (upd H1 q1 (.lst [x])) q2 (.lst (vs ++ [x])) p = some (.lst us) := by rw [upd_ne (ne_of_none (by rw [upd_ne n1p]; exact hp1) hq2), upd_ne n1p]; exact hp1
            refine ⟨vs, Or.inl (sqL_mk e2D), slFrom (sqL_mk e2p) vle fun q3 hq3 => ?_⟩
            have n23 : q2 ≠ q3 := ne_of_none upd_same hq3
            refine ⟨q2, q3, _, _, rfl, rfl, by rw [upd_ne n23]; exact upd_same, upd_same, by rw [sizeLine_eq]; simp; omega, fun q4 hq4 => ?_⟩
            have kk : Kp M0 H' (upd (upd (upd (upd H1 q1 (.lst [x])) q2 (.lst (vs ++ [x]))) q3 (.lst (us.drop vs.length))) q4 (.lst (vs ++ [x] ++ us.drop vs.length))) :=
              (((k2.trans (Kp.new hq1)).trans (Kp.new hq2)).trans (Kp.new hq3)).trans (Kp.new hq4)
            have kk1 : Kp M0 H1 (upd (upd (upd (upd H1 q1 (.lst [x])) q2 (.lst (vs ++ [x]))) q3 (.lst (us.drop vs.length))) q4 (.lst (vs ++ [x] ++ us.drop vs.length))) :=
              (((Kp.new hq1).trans (Kp.new hq2)).trans (Kp.new hq3)).trans (Kp.new hq4)
            have back : H q4 = none := none0 (k1.trans (((k2.trans (Kp.new hq1)).trans (Kp.new hq2)).trans (Kp.new hq3))) hq4
            refine ⟨q4, _, _, _, rfl, k1.trans kk, back, upd_same, ?_⟩
            rw [next]; unfold insP; rw [if_neg nm, List.map_append, List.map_append, List.map_drop, ← vl]
            exact dps_app (dps_app (pts_tk ha (Tk.of0 kk1)) (dps_one (dp_tk (Tk.of0 kk) _ _ (ptD_tup _) dx))) (dps_drop _ (pts_tk hus (Tk.of0 kk)))
        · have m : pt ∈ ascP (l.take i) := by simpa using c
          refine ⟨p, us, some x, v4, rfl, k1, hp, hp', ?_⟩
          rw [next]; unfold insP; rw [if_pos m]; exact hus
    · rintro σ H' ⟨p, us, v2, v4, rfl, k1, hp, hp', hus⟩
      rw [wlen, List.take_length] at hus
      exact ⟨_, rfl, k p H' us hp k1 hp' hus⟩
/-! ### _law_gap -/
def sp__law_gap (K : PySem.W.Frag) : Sp := fun vs H Q _ => ∃ (a : Addr) (u : V) (ws : List V) (l : List Pt) (y : Pt), vs = [.ref a, u] ∧ SqL K H a ws ∧ DpAll K H ws (l.map ptD) ∧ Dp K H u (ptD y) ∧ (∀ x ∈ l, Sz 4000 x) ∧ Sz 4000 y ∧ l.length < 100000 ∧
  ∀ H', Kp M0 H H' → Q (.int (lessN l y : Nat)) H'
theorem ok__law_gap (W : Ds K mg) : FnOk P w K mg base CX0 2 W.f__law_gap W.fd__law_gap P__law_gap (sp__law_gap K) := by
  refine W.D__law_gap.F.ok sc__law_gap (fun vs H Q E h => ?len) (fun cdv A outer s H vs Q E hr h => ?body)
  case len =>
    obtain ⟨a, u, ws, l, y, rfl, _⟩ := h
    rfl
  case body =>
    obtain ⟨a, u, ws, l, y, rfl, hT, hws, hy, hl, sy, hlen, k⟩ := h
    have nd := sc__law_gap.nd
    have hu := hu_of hr
    have hu64 := hr.units
    have hu65 := hu65_of hr
    refine ⟨_, (pss_one (ps_ret (pe_callB (c_len K) (by rfl) W.T.b_len (by decide +kernel) (pa_cons (pe_lc (own := [("one", 2)]) rfl nd (i_list K (pv 0)) (blkOk_by (N := N__law_gap) (sc := defScope s__law_gap) (by decide +kernel)) (fun _ _ _ _ _ => (pg_name (i := 2) nd rfl (by first | exact Or.inl rfl | exact Or.inr rfl))) (fun _ _ _ _ _ => (pts_one (pt_val (pe_call (ok__law_less W) (hr.mono (by first | decide | omega)) rfl W.D__law_less.g W.D__law_less.F.kp W.D__law_less.b .nil pass0 (pa_cons (pv 2) (pa_cons (pv 1) pa_nil)))))) (fun _ _ _ _ _ => (pv 2))) pa_nil)))), ?_⟩
    simp only [tSeq, tIfS, tNext, tRet, tRetN, tAsg, tDrop, tPar, tCons, tNil, tCB, tVar, tC, tOp, rI, rI0, rU, tTest, tB, tTup, tLst, gName, tIf, tAnd, tOr, tNot, tAndV, tOrV, tNotV, tUn, tCall, tChain, tSl, tNoPart, tPart, tBM, tBM0, tDGet, sDPut, tAugS, ipI, tAug, rIxT, rIxL, rMulK, rLenK, rLstK, tTruK, gTup, gCons, gNil, rEq, rNe, scal, tNever, rMulK, rGcd, L2.start, List.map, List.length, List.replicate, List.cons_append, List.nil_append, List.append_nil, List.set, List.set_cons_zero, List.set_cons_succ, List.getElem?_cons_succ, List.getElem?_cons_zero, Option.some.injEq, List.cons.injEq, V.int.injEq, V.str.injEq, V.bl.injEq, V.ref.injEq, and_true, true_and, exists_eq_left, exists_eq_left', exists_eq_right, exists_eq_right', exists_eq, exists_and_left, exists_and_right, and_assoc, exists_false, false_and, and_false, or_false, false_or, reduceCtorEq, Nat.reduceAdd, Nat.reduceSub, List.append_assoc, eq_self, if_true, if_false, Bool.false_eq_true, decide_eq_true_eq, List.length_cons, List.length_nil]
    refine tlcL ?_
    refine ⟨_, rfl, lcL (l.map ptD) (fun d => match d with | .tuple [.int p, .int q] => decide (ltP (p, q) y) | _ => false) id (by rw [List.length_map, sizeLine_eq]; omega) hT hws (ptDs_tup _) (fun d h _ => tupDs_all.mp (ptDs_tup _) d h) (fun j d z H1 e dz k2 Q' q => ?_) (fun j d z H1 e _ dz k2 Q' q => ⟨z, rfl, q _ _ (Kp.refl _) dz⟩) fun D H1 vs hD k2 hd1 ha => ?_⟩
    · obtain ⟨t, ht, rfl⟩ := List.mem_map.mp (List.mem_of_getElem? e)
      simp only [tSeq, tIfS, tNext, tRet, tRetN, tAsg, tDrop, tPar, tCons, tNil, tCB, tVar, tC, tOp, rI, rI0, rU, tTest, tB, tTup, tLst, gName, tIf, tAnd, tOr, tNot, tAndV, tOrV, tNotV, tUn, tCall, tChain, tSl, tNoPart, tPart, tBM, tBM0, tDGet, sDPut, tAugS, ipI, tAug, rIxT, rIxL, rMulK, rLenK, rLstK, tTruK, gTup, gCons, gNil, rEq, rNe, scal, tNever, rMulK, rGcd, L2.start, List.map, List.length, List.replicate, List.cons_append, List.nil_append, List.append_nil, List.set, List.set_cons_zero, List.set_cons_succ, List.getElem?_cons_succ, List.getElem?_cons_zero, Option.some.injEq, List.cons.injEq, V.int.injEq, V.str.injEq, V.bl.injEq, V.ref.injEq, and_true, true_and, exists_eq_left, exists_eq_left', exists_eq_right, exists_eq_right', exists_eq, exists_and_left, exists_and_right, and_assoc, exists_false, false_and, and_false, or_false, false_or, reduceCtorEq, Nat.reduceAdd, Nat.reduceSub, List.append_assoc, eq_self, if_true, if_false, Bool.false_eq_true, decide_eq_true_eq, List.length_cons, List.length_nil]
      refine ⟨z, u, t, y, rfl, dz, dp_tk (Tk.of0 k2) _ _ (ptD_tup _) hy, hl t ht, sy, ?_⟩
      exact ⟨_, rfl, q _ (Kp.refl _)⟩
    · rw [filter_pts, List.map_id] at ha
      refine ⟨D, rfl, vs, Or.inl (sqL_mk hd1), ?_⟩
      have e : vs.length = lessN l y := by rw [dps_len ha, List.length_map]; rfl
      rw [e]
      exact k _ k2
/-! ### _law_spread -/
theorem pts_item {H : Hp} {ws : List V} {l : List Pt} (h : DpAll K H ws (l.map ptD)) {i : Nat} (hi : i < l.length) : ∃ v, ws[i]? = some v ∧ Dp K H v (ptD (atP l i)) :=
  dps_get' h (by rw [List.getElem?_map, atP_some hi]; rfl)

def sp__law_spread (K : PySem.W.Frag) : Sp := fun vs H Q _ => ∃ (a : Addr) (ws : List V) (l : List Pt) (gap n : Nat), vs = [.ref a, .int gap, .int n] ∧ SqL K H a ws ∧ DpAll K H ws (l.map ptD) ∧ PtsOk 1000 l ∧ l.length < 5000 ∧ gap ≤ l.length ∧ n < 1000 ∧
  ∀ (D : Addr) (H' : Hp) (us : List V), H D = none → Kp M0 H H' → H' D = some (.lst us) → DpAll K H' us ((spreadP l gap n).map ptD) → Q (.ref D) H'
theorem ok__law_spread (W : Ds K mg) : FnOk P w K mg base CX0 2 W.f__law_spread W.fd__law_spread P__law_spread (sp__law_spread K) := by
  refine W.D__law_spread.F.ok sc__law_spread (fun vs H Q E h => ?len) (fun cdv A outer s H vs Q E hr h => ?body)
  case len =>
    obtain ⟨a, ws, l, gap, n, rfl, _⟩ := h
    rfl
  case body =>
    obtain ⟨a, ws, l, gap, n, rfl, hT, hws, hl, hlen, hgap, hn, k⟩ := h
    have wlen : ws.length = l.length := by rw [dps_len hws, List.length_map]
    have nd := sc__law_spread.nd
    have hu := hu_of hr
    have hu64 := hr.units
    have hu65 := hu65_of hr
    refine ⟨_, (pss_cons (ps_if (pt_cmpR op_eq (pe_callB (c_len K) (by rfl) W.T.b_len (by decide +kernel) (pa_cons (pv 0) pa_nil)) pe_int (nomark _))
     (pss_one (ps_ret (pe_lc (own := [("i", 3)]) rfl nd (pi_range1 rfl W.T.b_range (pa_cons (pv 2) pa_nil)) (blkOk_by (N := N__law_spread) (sc := defScope s__law_spread) (by decide +kernel)) (fun _ _ _ _ _ => (pg_name (i := 3) nd rfl (by first | exact Or.inl rfl | exact Or.inr rfl))) (fun _ _ _ _ _ => pts_nil) (fun _ _ _ _ _ => (pe_tup (pa_cons (pv 3) (pa_cons pe_int pa_nil)))))))
     pss_nil)
  (pss_cons (ps_if (pt_cmpR op_eq (pv 1) pe_int (nomark _))
     (pss_cons (ps_asg (pe_ix (k_ixL K) (pv 0) pe_int (fun _ _ => rfl)) (g_tup K (pg_tup (n := 2) rfl (pgs_cons (pg_name (i := 4) nd rfl (by first | exact Or.inl rfl | exact Or.inr rfl)) (pgs_cons (pg_name (i := 5) nd rfl (by first | exact Or.inl rfl | exact Or.inr rfl)) pgs_nil)))))
      (pss_one (ps_ret (pe_lc (own := [("i", 3)]) rfl nd (pi_range1 rfl W.T.b_range (pa_cons (pv 2) pa_nil)) (blkOk_by (N := N__law_spread) (sc := defScope s__law_spread) (by decide +kernel)) (fun _ _ _ _ _ => (pg_name (i := 3) nd rfl (by first | exact Or.inl rfl | exact Or.inr rfl))) (fun _ _ _ _ _ => pts_nil) (fun _ _ _ _ _ => (pe_call (ok__law_point W) (hr.mono (by first | decide | omega)) rfl W.D__law_point.g W.D__law_point.F.kp W.D__law_point.b .nil pass0 (pa_cons (pe_op op_sub (pv 4) (pe_op op_mulK (pe_op op_sub (pv 2) (pv 3)) (pv 5))) (pa_cons (pv 5) pa_nil))))))))
     pss_nil)
  (pss_cons (ps_if (pt_cmpR op_eq (pv 1) (pe_callB (c_len K) (by rfl) W.T.b_len (by decide +kernel) (pa_cons (pv 0) pa_nil)) (nomark _))
     (pss_cons (ps_asg (pe_ix (k_ixL K) (pv 0) (pe_op op_sub (pv 1) pe_int) (fun _ _ => rfl)) (g_tup K (pg_tup (n := 2) rfl (pgs_cons (pg_name (i := 4) nd rfl (by first | exact Or.inl rfl | exact Or.inr rfl)) (pgs_cons (pg_name (i := 5) nd rfl (by first | exact Or.inl rfl | exact Or.inr rfl)) pgs_nil)))))
      (pss_one (ps_ret (pe_lc (own := [("i", 3)]) rfl nd (pi_range1 rfl W.T.b_range (pa_cons (pv 2) pa_nil)) (blkOk_by (N := N__law_spread) (sc := defScope s__law_spread) (by decide +kernel)) (fun _ _ _ _ _ => (pg_name (i := 3) nd rfl (by first | exact Or.inl rfl | exact Or.inr rfl))) (fun _ _ _ _ _ => pts_nil) (fun _ _ _ _ _ => (pe_call (ok__law_point W) (hr.mono (by first | decide | omega)) rfl W.D__law_point.g W.D__law_point.F.kp W.D__law_point.b .nil pass0 (pa_cons (pe_op op_add (pv 4) (pe_op op_mulK (pe_op op_add (pv 3) pe_int) (pv 5))) (pa_cons (pv 5) pa_nil))))))))
     pss_nil)
  (pss_cons (ps_asg (pe_ix (k_ixL K) (pv 0) (pe_op op_sub (pv 1) pe_int) (fun _ _ => rfl)) (g_tup K (pg_tup (n := 2) rfl (pgs_cons (pg_name (i := 6) nd rfl (by first | exact Or.inl rfl | exact Or.inr rfl)) (pgs_cons (pg_name (i := 7) nd rfl (by first | exact Or.inl rfl | exact Or.inr rfl)) pgs_nil)))))
  (pss_cons (ps_asg (pe_ix (k_ixL K) (pv 0) (pv 1) (fun _ _ => rfl)) (g_tup K (pg_tup (n := 2) rfl (pgs_cons (pg_name (i := 8) nd rfl (by first | exact Or.inl rfl | exact Or.inr rfl)) (pgs_cons (pg_name (i := 9) nd rfl (by first | exact Or.inl rfl | exact Or.inr rfl)) pgs_nil)))))
  (pss_one (ps_ret (pe_lc (own := [("i", 3)]) rfl nd (pi_range1 rfl W.T.b_range (pa_cons (pv 2) pa_nil)) (blkOk_by (N := N__law_spread) (sc := defScope s__law_spread) (by decide +kernel)) (fun _ _ _ _ _ => (pg_name (i := 3) nd rfl (by first | exact Or.inl rfl | exact Or.inr rfl))) (fun _ _ _ _ _ => pts_nil) (fun _ _ _ _ _ => (pe_call (ok__law_point W) (hr.mono (by first | decide | omega)) rfl W.D__law_point.g W.D__law_point.F.kp W.D__law_point.b .nil pass0 (pa_cons (pe_op op_add (pe_op op_mulK (pe_op op_mulK (pv 6) (pv 9)) (pe_op op_add (pv 2) pe_int)) (pe_op op_mulK (pe_op op_sub (pe_op op_mulK (pv 8) (pv 7)) (pe_op op_mulK (pv 6) (pv 9))) (pe_op op_add (pv 3) pe_int))) (pa_cons (pe_op op_mulK (pe_op op_mulK (pv 7) (pv 9)) (pe_op op_add (pv 2) pe_int)) pa_nil)))))))))))), ?_⟩
    simp only [tSeq, tIfS, tNext, tRet, tRetN, tAsg, tDrop, tPar, tCons, tNil, tCB, tVar, tC, tOp, rI, rI0, rU, tTest, tB, tTup, tLst, gName, tIf, tAnd, tOr, tNot, tAndV, tOrV, tNotV, tUn, tCall, tChain, tSl, tNoPart, tPart, tBM, tBM0, tDGet, sDPut, tAugS, ipI, tAug, rIxT, rIxL, rMulK, rLenK, rLstK, tTruK, gTup, gCons, gNil, rEq, rNe, scal, tNever, rMulK, rGcd, L2.start, List.map, List.length, List.replicate, List.cons_append, List.nil_append, List.append_nil, List.set, List.set_cons_zero, List.set_cons_succ, List.getElem?_cons_succ, List.getElem?_cons_zero, Option.some.injEq, List.cons.injEq, V.int.injEq, V.str.injEq, V.bl.injEq, V.ref.injEq, and_true, true_and, exists_eq_left, exists_eq_left', exists_eq_right, exists_eq_right', exists_eq, exists_and_left, exists_and_right, and_assoc, exists_false, false_and, and_false, or_false, false_or, reduceCtorEq, Nat.reduceAdd, Nat.reduceSub, List.append_assoc, eq_self, if_true, if_false, Bool.false_eq_true, decide_eq_true_eq, List.length_cons, List.length_nil]
    have e0 : (spreadP l gap n).map ptD = (List.range n).map fun i => ptD (spreadI l gap n i) := by
      unfold spreadP; rw [List.map_map]; rfl
    rw [e0] at k
    refine ⟨ws, Or.inl hT, ?_⟩
    refine ite2 (fun c => ?_) (fun c => ?_)
    · have l0 : l.length = 0 := by omega
      refine tlcR ?_
      refine ⟨_, rfl, lcR (K := K) (fun i => ptD (spreadI l gap n i)) (by rw [sizeLine_eq]; omega) (fun i _ => rfl) (fun i H1 hi k1 Q' q => ?_) fun D H1 vs hD k1 hd1 ha => k D H1 vs hD k1 hd1 ha⟩
      simp only [tSeq, tIfS, tNext, tRet, tRetN, tAsg, tDrop, tPar, tCons, tNil, tCB, tVar, tC, tOp, rI, rI0, rU, tTest, tB, tTup, tLst, gName, tIf, tAnd, tOr, tNot, tAndV, tOrV, tNotV, tUn, tCall, tChain, tSl, tNoPart, tPart, tBM, tBM0, tDGet, sDPut, tAugS, ipI, tAug, rIxT, rIxL, rMulK, rLenK, rLstK, tTruK, gTup, gCons, gNil, rEq, rNe, scal, tNever, rMulK, rGcd, L2.start, List.map, List.length, List.replicate, List.cons_append, List.nil_append, List.append_nil, List.set, List.set_cons_zero, List.set_cons_succ, List.getElem?_cons_succ, List.getElem?_cons_zero, Option.some.injEq, List.cons.injEq, V.int.injEq, V.str.injEq, V.bl.injEq, V.ref.injEq, and_true, true_and, exists_eq_left, exists_eq_left', exists_eq_right, exists_eq_right', exists_eq, exists_and_left, exists_and_right, and_assoc, exists_false, false_and, and_false, or_false, false_or, reduceCtorEq, Nat.reduceAdd, Nat.reduceSub, List.append_assoc, eq_self, if_true, if_false, Bool.false_eq_true, decide_eq_true_eq, List.length_cons, List.length_nil]
      refine ⟨by decide, fun p hp => q _ _ (Kp.new hp) ?_⟩
      have : spreadI l gap n i = ((i : Int), 1) := by unfold spreadI; rw [if_pos l0]
      rw [this]
      exact pt_mk upd_same
    have l0 : l.length ≠ 0 := by omega
    refine ite2 (fun c1 => ?_) (fun c1 => ?_)
    · have g0 : gap = 0 := by omega
      subst g0
      obtain ⟨v, hv, dv⟩ := pts_item hws (i := 0) (by omega)
      obtain ⟨b, rfl, hb⟩ := pt_of dv
      have mx := List.mem_of_getElem? (atP_some (l := l) (i := 0) (by omega))
      have sx := hl.sz _ mx
      have ox := hl.ok _ mx
      refine ⟨ws, hT, _, atI_nat (j := 0) hv, _, rfl, _, hb, rfl, _, _, rfl, _, _, rfl, rfl, ?_⟩
      refine tlcR ?_
      refine ⟨_, rfl, lcR (K := K) (fun i => ptD (spreadI l 0 n i)) (by rw [sizeLine_eq]; omega) (fun i _ => rfl) (fun i H1 hi k1 Q' q => ?_) fun D H1 vs hD k1 hd1 ha => k D H1 vs hD k1 hd1 ha⟩
      simp only [tSeq, tIfS, tNext, tRet, tRetN, tAsg, tDrop, tPar, tCons, tNil, tCB, tVar, tC, tOp, rI, rI0, rU, tTest, tB, tTup, tLst, gName, tIf, tAnd, tOr, tNot, tAndV, tOrV, tNotV, tUn, tCall, tChain, tSl, tNoPart, tPart, tBM, tBM0, tDGet, sDPut, tAugS, ipI, tAug, rIxT, rIxL, rMulK, rLenK, rLstK, tTruK, gTup, gCons, gNil, rEq, rNe, scal, tNever, rMulK, rGcd, L2.start, List.map, List.length, List.replicate, List.cons_append, List.nil_append, List.append_nil, List.set, List.set_cons_zero, List.set_cons_succ, List.getElem?_cons_succ, List.getElem?_cons_zero, Option.some.injEq, List.cons.injEq, V.int.injEq, V.str.injEq, V.bl.injEq, V.ref.injEq, and_true, true_and, exists_eq_left, exists_eq_left', exists_eq_right, exists_eq_right', exists_eq, exists_and_left, exists_and_right, and_assoc, exists_false, false_and, and_false, or_false, false_or, reduceCtorEq, Nat.reduceAdd, Nat.reduceSub, List.append_assoc, eq_self, if_true, if_false, Bool.false_eq_true, decide_eq_true_eq, List.length_cons, List.length_nil]
      have : spreadI l 0 n i = normP ((atP l 0).1 - ((n : Int) - i) * (atP l 0).2) (atP l 0).2 := by
        unfold spreadI
        rw [if_neg l0, if_pos rfl]
        have e : (atP l 0).1 - ((n : Int) - i) * (atP l 0).2 = (atP l 0).1 + ((i : Int) - n) * (atP l 0).2 := by
          rw [show ((i : Int) - n) = -((n : Int) - i) by omega, Int.neg_mul]; omega
        rw [e]
        exact (norm_id (shift_ok ox ((i : Int) - n))).symm
      refine ⟨mulOk_l (by omega) (by omega), _, _, rfl, ox.pos, abs_mono sx.2 (by omega), fun v' H' k' d' => q _ _ k' ?_⟩
      rw [this]
      exact d'
    refine ⟨ws, Or.inl hT, ?_⟩
    refine ite2 (fun c2 => ?_) (fun c2 => ?_)
    · have g0 : gap = l.length := by omega
      subst g0
      obtain ⟨v, hv, dv⟩ := pts_item hws (i := l.length - 1) (by omega)
      obtain ⟨b, rfl, hb⟩ := pt_of dv
      have mx := List.mem_of_getElem? (atP_some (l := l) (i := l.length - 1) (by omega))
      have sx := hl.sz _ mx
      have ox := hl.ok _ mx
      refine ⟨ws, hT, _, (by rw [show ((l.length : Int) - 1) = ((l.length - 1 : Nat) : Int) by omega]; exact atI_nat hv), _, rfl, _, hb, rfl, _, _, rfl, _, _, rfl, rfl, ?_⟩
      refine tlcR ?_
      refine ⟨_, rfl, lcR (K := K) (fun i => ptD (spreadI l l.length n i)) (by rw [sizeLine_eq]; omega) (fun i _ => rfl) (fun i H1 hi k1 Q' q => ?_) fun D H1 vs hD k1 hd1 ha => k D H1 vs hD k1 hd1 ha⟩
      simp only [tSeq, tIfS, tNext, tRet, tRetN, tAsg, tDrop, tPar, tCons, tNil, tCB, tVar, tC, tOp, rI, rI0, rU, tTest, tB, tTup, tLst, gName, tIf, tAnd, tOr, tNot, tAndV, tOrV, tNotV, tUn, tCall, tChain, tSl, tNoPart, tPart, tBM, tBM0, tDGet, sDPut, tAugS, ipI, tAug, rIxT, rIxL, rMulK, rLenK, rLstK, tTruK, gTup, gCons, gNil, rEq, rNe, scal, tNever, rMulK, rGcd, L2.start, List.map, List.length, List.replicate, List.cons_append, List.nil_append, List.append_nil, List.set, List.set_cons_zero, List.set_cons_succ, List.getElem?_cons_succ, List.getElem?_cons_zero, Option.some.injEq, List.cons.injEq, V.int.injEq, V.str.injEq, V.bl.injEq, V.ref.injEq, and_true, true_and, exists_eq_left, exists_eq_left', exists_eq_right, exists_eq_right', exists_eq, exists_and_left, exists_and_right, and_assoc, exists_false, false_and, and_false, or_false, false_or, reduceCtorEq, Nat.reduceAdd, Nat.reduceSub, List.append_assoc, eq_self, if_true, if_false, Bool.false_eq_true, decide_eq_true_eq, List.length_cons, List.length_nil]
      have : spreadI l l.length n i = normP ((atP l (l.length - 1)).1 + ((i : Int) + 1) * (atP l (l.length - 1)).2) (atP l (l.length - 1)).2 := by
        unfold spreadI
        rw [if_neg l0, if_neg l0, if_pos rfl]
        exact (norm_id (shift_ok ox ((i : Int) + 1))).symm
      refine ⟨mulOk_l (by omega) (by omega), _, _, rfl, ox.pos, abs_mono sx.2 (by omega), fun v' H' k' d' => q _ _ k' ?_⟩
      rw [this]
      exact d'
    · have g1 : 0 < gap := by omega
      have g2 : gap < l.length := by omega
      obtain ⟨v, hv, dv⟩ := pts_item hws (i := gap - 1) (by omega)
      obtain ⟨u, hu', du⟩ := pts_item hws (i := gap) g2
      obtain ⟨a1, rfl, ha1⟩ := pt_of dv
      obtain ⟨b1, rfl, hb1⟩ := pt_of du
      have mv := List.mem_of_getElem? (atP_some (l := l) (i := gap - 1) (by omega))
      have mu := List.mem_of_getElem? (atP_some (l := l) (i := gap) g2)
      have ev : atI ws ((gap : Int) - 1) = some (V.ref a1) := by rw [show (gap : Int) - 1 = ((gap - 1 : Nat) : Int) by omega]; exact atI_nat hv
      refine ⟨ws, hT, _, ev, _, rfl, _, ha1, rfl, _, _, rfl, _, _, rfl, rfl, ws, hT, _, atI_nat hu', _, rfl, _, hb1, rfl, _, _, rfl, _, _, rfl, rfl, ?_⟩
      refine tlcR ?_
      refine ⟨_, rfl, lcR (K := K) (fun i => ptD (spreadI l gap n i)) (by rw [sizeLine_eq]; omega) (fun i _ => rfl) (fun i H1 hi k1 Q' q => ?_) fun D H1 vs hD k1 hd1 ha => k D H1 vs hD k1 hd1 ha⟩
      simp only [tSeq, tIfS, tNext, tRet, tRetN, tAsg, tDrop, tPar, tCons, tNil, tCB, tVar, tC, tOp, rI, rI0, rU, tTest, tB, tTup, tLst, gName, tIf, tAnd, tOr, tNot, tAndV, tOrV, tNotV, tUn, tCall, tChain, tSl, tNoPart, tPart, tBM, tBM0, tDGet, sDPut, tAugS, ipI, tAug, rIxT, rIxL, rMulK, rLenK, rLstK, tTruK, gTup, gCons, gNil, rEq, rNe, scal, tNever, rMulK, rGcd, L2.start, List.map, List.length, List.replicate, List.cons_append, List.nil_append, List.append_nil, List.set, List.set_cons_zero, List.set_cons_succ, List.getElem?_cons_succ, List.getElem?_cons_zero, Option.some.injEq, List.cons.injEq, V.int.injEq, V.str.injEq, V.bl.injEq, V.ref.injEq, and_true, true_and, exists_eq_left, exists_eq_left', exists_eq_right, exists_eq_right', exists_eq, exists_and_left, exists_and_right, and_assoc, exists_false, false_and, and_false, or_false, false_or, reduceCtorEq, Nat.reduceAdd, Nat.reduceSub, List.append_assoc, eq_self, if_true, if_false, Bool.false_eq_true, decide_eq_true_eq, List.length_cons, List.length_nil]
      have : spreadI l gap n i = betP (atP l (gap - 1)) (atP l gap) ((i : Int) + 1) ((n : Int) + 1) := by unfold spreadI; rw [if_neg l0, if_neg (by omega), if_neg (by omega)]
      rw [this] at q
      unfold betP at q
      have s1 := hl.sz _ mv
      have s2 := hl.sz _ mu
      have bn : ((n : Int) + 1).natAbs < 2 ^ 60 := by omega
      have b3 : ((atP l (gap - 1)).2 * (atP l gap).2).natAbs < 2 ^ 2000 := abs_mul_lt s1.2 s2.2
      have b4 : ((atP l (gap - 1)).2 * (atP l gap).2 * ((n : Int) + 1)).natAbs < 2 ^ 8000 := abs_mono (abs_mul_lt b3 bn) (by omega)
      refine ⟨mulOk_w s1.1 s2.2 (by omega) (by omega) (by omega), mulOk_r (by omega) (by omega), mulOk_w s2.1 s1.2 (by omega) (by omega) (by omega), mulOk_w s1.1 s2.2 (by omega) (by omega) (by omega), mulOk_r (by omega) (by omega), mulOk_w s1.2 s2.2 (by omega) (by omega) (by omega), mulOk_r (by omega) (by omega), _, _, rfl, ?_, b4, fun v' H' k' d' => q _ _ k' d'⟩
      exact Int.mul_pos (Int.mul_pos (hl.ok _ mv).pos (hl.ok _ mu).pos) (by omega)

end
end G
set_option Elab.async false
set_option linter.all false
set_option maxRecDepth 100000
set_option maxHeartbeats 1000000
set_option exponentiation.threshold 10000
namespace G
open PySem L2 LamX
section
variable {P : Program} {w : World} {K : PySem.W.Frag} {mg : Str → Option Value} {base : Heap}
/-! ### _law_support -/
def sp_sup (K : PySem.W.Frag) (n : Nat) : Sp := fun vs H Q _ => ∃ (v : V) (x : Vl) (b : Nat), vs = [v] ∧ Dp K H v (vlD x) ∧ VOk n b x ∧ b ≤ 4000 ∧ vw x < 1000 ∧
  ∀ (D : Addr) (H' : Hp) (us : List V), H D = none → Kp M0 H H' → H' D = some (.lst us) → DpAll K H' us ((supV x).map ptD) → Q (.ref D) H'
def SupI (K : PySem.W.Frag) (v : V) (a : Addr) (l : List Vl) (H : Hp) (i : Nat) (σ : L2.St) (H' : Hp) : Prop := ∃ (p : Addr) (us : List V) (v2 : Option V), σ = [some v, some (.ref p), v2] ∧ Kp M0 H H' ∧ H p = none ∧ H' p = some (.lst us) ∧ DpAll K H' us ((supVs (l.take i)).map ptD)
theorem supVs_snoc (l : List Vl) (x : Vl) : supVs (l ++ [x]) = supVs l ++ supV x := by rw [supVs_app]; simp [supVs]
def prevS (sp : Nat → Sp) : Nat → Sp
  | 0 => fun _ _ _ _ => False
  | n + 1 => sp n
theorem slRest {H : Hp} {a : Addr} {y : V} {ws : List V} {Q : VK} (h : SqT K H a (y :: ws)) (q : ∀ b, H b = none → Q (.ref b) (upd H b (.tup ws))) : rSlA K (.ref a) (some 1) none H Q := by
  have e1 : HT.sIx (y :: ws).length 0 (some 1) = 1 := by
    show HT.sIx (y :: ws).length 0 (some ((1 : Nat) : Int)) = 1
    rw [HT.sIx_nat, List.length_cons]; omega
  refine ⟨a, _, rfl, h, fun c => ?_, fun _ p hp => ?_⟩
  · rw [e1] at c; omega
  · have e : cutV (y :: ws) (some 1) none = ws := by
      unfold cutV
      rw [e1, HT.sIx_none]
      simp
    rw [e]; exact q p hp
theorem fnOk_false {k : Nat} {f : Addr} {fd : FuncData} {ps : List Str} : FnOk P w K mg base CX0 k f fd ps fun _ _ _ _ => False := ⟨fun _ _ _ _ h => h.elim, fun _ _ _ _ _ _ _ _ _ _ _ _ _ h => h.elim⟩
theorem fnG_false {k : Nat} {f : Addr} {fd : FuncData} {ps : List Str} : FnG P w K mg base k f fd ps fun _ _ _ _ => False := ⟨fun _ _ _ _ h => h.elim, fun _ _ _ _ _ _ _ _ _ _ _ _ _ _ h => h.elim⟩
set_option maxHeartbeats 2000000 in
theorem st__law_support (W : Ds K mg) (n : Nat) (ih : FnOk P w K mg base CX0 (n + 2) W.f__law_support W.fd__law_support P__law_support (prevS (sp_sup K) n)) : FnOk P w K mg base CX0 (n + 2 + 1) W.f__law_support W.fd__law_support P__law_support (sp_sup K n) := by
  refine W.D__law_support.F.ok sc__law_support (fun vs H Q E h => ?len) (fun cdv A outer s H vs Q E hr h => ?body)
  case len =>
    obtain ⟨v, x, b, rfl, _⟩ := h
    rfl
  case body =>
    obtain ⟨v, x, b, rfl, dx, ox, hb, hw, k⟩ := h
    have nd := sc__law_support.nd
    have hu := hu_of hr
    have hu64 := hr.units
    have hu65 := hu65_of hr
    refine ⟨_, (pss_cons (ps_if (pt_val (pe_callB (c_isi K) (by rfl) W.T.b_isinstance (by decide +kernel) (pa_cons (pv 0) (pa_cons (pe_bltn (v := .ty "str") (u := .type "str") (by rfl) W.T.b_str (by decide +kernel) (by rfl)) pa_nil))))
     (pss_one (ps_ret (pe_lst pa_nil)))
     pss_nil)
  (pss_cons (ps_if (pt_cmpR (k_eqD K hu64) (pe_ix (k_ixT K) (pv 0) pe_int (fun _ _ => rfl)) pe_str (nomark _))
     (pss_one (ps_ret (pe_callTy (c_list K) (by rfl) W.T.b_list (by decide +kernel) (pa_cons (pe_ix (k_ixT K) (pv 0) pe_int (fun _ _ => rfl)) pa_nil))))
     pss_nil)
  (pss_cons (ps_if (pt_cmpR (k_eqD K hu64) (pe_ix (k_ixT K) (pv 0) pe_int (fun _ _ => rfl)) pe_str (nomark _))
     (pss_cons (ps_set (i := 1) nd rfl (by first | exact Or.inl rfl | exact Or.inr rfl) (pe_lst pa_nil))
      (pss_cons (ps_for PassesOwn.never rfl (i_tup K (pe_slice (k_slT K) (pv 0) (po_some pe_int) po_none)) (pg_name (i := 2) nd rfl (by first | exact Or.inl rfl | exact Or.inr rfl))
         (pss_one (ps_set (i := 1) nd rfl (by first | exact Or.inl rfl | exact Or.inr rfl) (pe_op op_cat (pv 1) (pe_call ih (hr.mono (by first | decide | omega)) rfl W.D__law_support.g W.D__law_support.F.kp W.D__law_support.b .nil pass0 (pa_cons (pv 2) pa_nil))))))
      (pss_one (ps_ret (pe_call (ok__law_ascending W) (hr.mono (by first | decide | omega)) rfl W.D__law_ascending.g W.D__law_ascending.F.kp W.D__law_ascending.b .nil pass0 (pa_cons (pv 1) pa_nil))))))
     pss_nil)
  (pss_one (ps_ret (pe_lst (pa_cons (pv 0) pa_nil))))))), ?_⟩
    simp only [tSeq, tIfS, tNext, tRet, tRetN, tAsg, tDrop, tPar, tCons, tNil, tCB, tVar, tC, tOp, rI, rI0, rU, tTest, tB, tTup, tLst, gName, tIf, tAnd, tOr, tNot, tAndV, tOrV, tNotV, tUn, tCall, tChain, tSl, tNoPart, tPart, tBM, tBM0, tDGet, sDPut, tAugS, ipI, tAug, rIxT, rIxL, rMulK, rLenK, rLstK, tTruK, gTup, gCons, gNil, rEq, rNe, scal, tNever, rMulK, rGcd, L2.start, List.map, List.length, List.replicate, List.cons_append, List.nil_append, List.append_nil, List.set, List.set_cons_zero, List.set_cons_succ, List.getElem?_cons_succ, List.getElem?_cons_zero, Option.some.injEq, List.cons.injEq, V.int.injEq, V.str.injEq, V.bl.injEq, V.ref.injEq, and_true, true_and, exists_eq_left, exists_eq_left', exists_eq_right, exists_eq_right', exists_eq, exists_and_left, exists_and_right, and_assoc, exists_false, false_and, and_false, or_false, false_or, reduceCtorEq, Nat.reduceAdd, Nat.reduceSub, List.append_assoc, eq_self, if_true, if_false, Bool.false_eq_true, decide_eq_true_eq, List.length_cons, List.length_nil]
    cases x with
    | word s =>
      obtain rfl := dv_word dx
      refine isi_str ⟨_, rfl, ?_⟩
      rw [if_pos rfl]
      exact ⟨by decide, fun p hp => k p _ [] hp (Kp.new hp) upd_same .nil⟩
    | pt x =>
      obtain ⟨a, rfl, ha⟩ := dv_pt dx
      refine isi_no ha ⟨_, rfl, ?_⟩
      rw [if_neg (by simp)]
      refine ⟨a, rfl, _, ha, _, atI_nat (j := 0) rfl, no_int set_ok ⟨_, rfl, ?_⟩⟩
      rw [if_neg (by simp)]
      refine ⟨a, rfl, _, ha, _, atI_nat (j := 0) rfl, no_int row_ok ⟨_, rfl, ?_⟩⟩
      rw [if_neg (by simp)]
      exact ⟨by decide, fun p hp => k p _ [.ref a] hp (Kp.new hp) upd_same (by rw [supV]; exact dps_one (dv_tk dx (Tk.new hp)))⟩
    | set ps ms =>
      obtain ⟨a, p, m, pw, mw, rfl, ha, hp, dp, hm, dm⟩ := dv_set dx
      refine isi_no ha ⟨_, rfl, ?_⟩
      rw [if_neg (by simp)]
      refine ⟨a, rfl, _, ha, _, atI_nat (j := 0) rfl, is_set ⟨_, rfl, ?_⟩⟩
      rw [if_pos rfl]
      refine ⟨a, rfl, _, ha, _, atI_nat (j := 1) rfl, p, rfl, pw, Or.inr hp, fun l hl => k l _ pw hl (Kp.new hl) upd_same ?_⟩
      rw [supV]; exact pts_tk dp (Tk.new hl)
    | row l =>
      obtain ⟨a, ws, rfl, ha, da⟩ := dv_row dx
      refine isi_no ha ⟨_, rfl, ?_⟩
      rw [if_neg (by simp)]
      refine ⟨a, rfl, _, ha, _, atI_nat (j := 0) rfl, no_set ⟨_, rfl, ?_⟩⟩
      rw [if_neg (by simp)]
      refine ⟨a, rfl, _, ha, _, atI_nat (j := 0) rfl, is_row ⟨_, rfl, ?_⟩⟩
      rw [if_pos rfl]
      cases ox with
      | @row n b vs h0 ol =>
        have wl : ws.length = l.length := by rw [dps_len da, List.length_map]
        rw [vw] at hw
        refine ⟨by decide, fun p hp => tforT ?_⟩
        simp only [tSeq, tIfS, tNext, tRet, tRetN, tAsg, tDrop, tPar, tCons, tNil, tCB, tVar, tC, tOp, rI, rI0, rU, tTest, tB, tTup, tLst, gName, tIf, tAnd, tOr, tNot, tAndV, tOrV, tNotV, tUn, tCall, tChain, tSl, tNoPart, tPart, tBM, tBM0, tDGet, sDPut, tAugS, ipI, tAug, rIxT, rIxL, rMulK, rLenK, rLstK, tTruK, gTup, gCons, gNil, rEq, rNe, scal, tNever, rMulK, rGcd, L2.start, List.map, List.length, List.replicate, List.cons_append, List.nil_append, List.append_nil, List.set, List.set_cons_zero, List.set_cons_succ, List.getElem?_cons_succ, List.getElem?_cons_zero, Option.some.injEq, List.cons.injEq, V.int.injEq, V.str.injEq, V.bl.injEq, V.ref.injEq, and_true, true_and, exists_eq_left, exists_eq_left', exists_eq_right, exists_eq_right', exists_eq, exists_and_left, exists_and_right, and_assoc, exists_false, false_and, and_false, or_false, false_or, reduceCtorEq, Nat.reduceAdd, Nat.reduceSub, List.append_assoc, eq_self, if_true, if_false, Bool.false_eq_true, decide_eq_true_eq, List.length_cons, List.length_nil]
        refine slRest (sqT_tk (Tk.new hp) ha) fun t ht => ⟨t, rfl, ⟨ws, sqT_mk upd_same⟩, ?_⟩
        have kt : Kp M0 H (upd (upd H p (.lst [])) t (.tup ws)) := (Kp.new hp).trans (Kp.new ht)
        refine for_tup (K := K) (a := t) (xs := ws) (fun i σ H' => SupI K (.ref a) a l H i σ H' ∧ SqT K H' t ws) ⟨⟨p, [], none, rfl, kt, hp, by rw [upd_ne (ne_of_none upd_same ht)]; exact upd_same, by rw [List.take_zero, supVs]; exact .nil⟩, sqT_mk upd_same⟩ (fun i σ H' _ h => h.2) ?_ ?_
        · rintro i y σ H' hi ⟨⟨p, us, v2, rfl, k1, hp, hp', hus⟩, st⟩
          simp only [tSeq, tIfS, tNext, tRet, tRetN, tAsg, tDrop, tPar, tCons, tNil, tCB, tVar, tC, tOp, rI, rI0, rU, tTest, tB, tTup, tLst, gName, tIf, tAnd, tOr, tNot, tAndV, tOrV, tNotV, tUn, tCall, tChain, tSl, tNoPart, tPart, tBM, tBM0, tDGet, sDPut, tAugS, ipI, tAug, rIxT, rIxL, rMulK, rLenK, rLstK, tTruK, gTup, gCons, gNil, rEq, rNe, scal, tNever, rMulK, rGcd, L2.start, List.map, List.length, List.replicate, List.cons_append, List.nil_append, List.append_nil, List.set, List.set_cons_zero, List.set_cons_succ, List.getElem?_cons_succ, List.getElem?_cons_zero, Option.some.injEq, List.cons.injEq, V.int.injEq, V.str.injEq, V.bl.injEq, V.ref.injEq, and_true, true_and, exists_eq_left, exists_eq_left', exists_eq_right, exists_eq_right', exists_eq, exists_and_left, exists_and_right, and_assoc, exists_false, false_and, and_false, or_false, false_or, reduceCtorEq, Nat.reduceAdd, Nat.reduceSub, List.append_assoc, eq_self, if_true, if_false, Bool.false_eq_true, decide_eq_true_eq, List.length_cons, List.length_nil]
          obtain ⟨d, e1, dy⟩ := dps_get (dvs_tk da (Tk.of0 k1)) hi
          rw [List.getElem?_map] at e1
          cases e2 : l[i]? with
          | none => rw [e2] at e1; cases e1
          | some z =>
            rw [e2] at e1
            cases e1
            have mz := List.mem_of_getElem? e2
            have oz := ol z mz
            have wz := vw_mem mz
            refine ⟨y, z, b, rfl, dy, oz, hb, by omega, fun D H2 us2 hD k2 hd2 ha2 => ?_⟩
            have hp2 := k2 p _ hp' (fun z => z)
            have s1 := sups_len (vs := l.take i) (b := b) (n := n) fun v hv => ol v (List.mem_of_mem_take hv)
            have s2 := sup_len oz
            have s3 : vws (l.take i) ≤ vws l := by
              conv => rhs; rw [← List.take_append_drop i l, vws_app]
              omega
            have l1 : us.length = (supVs (l.take i)).length := by rw [dps_len hus, List.length_map]
            have l2 : us2.length = (supV z).length := by rw [dps_len ha2, List.length_map]
            refine ⟨p, D, us, us2, rfl, rfl, hp2, hd2, by rw [sizeLine_eq]; omega, fun q hq => ⟨⟨q, us ++ us2, _, rfl, (k1.trans k2).trans (Kp.new hq), none0 (k1.trans k2) hq, upd_same, ?_⟩, sqT_tk (Tk.of0 (k2.trans (Kp.new hq))) st⟩⟩
            rw [take_snoc e2, supVs_snoc, List.map_append]
            exact dps_app (pts_tk hus (Tk.of0 (k2.trans (Kp.new hq)))) (pts_tk ha2 (Tk.new hq))
        · rintro σ H' ⟨⟨p, us, v2, rfl, k1, hp, hp', hus⟩, st⟩
          rw [wl, List.take_length] at hus
          simp only [tSeq, tIfS, tNext, tRet, tRetN, tAsg, tDrop, tPar, tCons, tNil, tCB, tVar, tC, tOp, rI, rI0, rU, tTest, tB, tTup, tLst, gName, tIf, tAnd, tOr, tNot, tAndV, tOrV, tNotV, tUn, tCall, tChain, tSl, tNoPart, tPart, tBM, tBM0, tDGet, sDPut, tAugS, ipI, tAug, rIxT, rIxL, rMulK, rLenK, rLstK, tTruK, gTup, gCons, gNil, rEq, rNe, scal, tNever, rMulK, rGcd, L2.start, List.map, List.length, List.replicate, List.cons_append, List.nil_append, List.append_nil, List.set, List.set_cons_zero, List.set_cons_succ, List.getElem?_cons_succ, List.getElem?_cons_zero, Option.some.injEq, List.cons.injEq, V.int.injEq, V.str.injEq, V.bl.injEq, V.ref.injEq, and_true, true_and, exists_eq_left, exists_eq_left', exists_eq_right, exists_eq_right', exists_eq, exists_and_left, exists_and_right, and_assoc, exists_false, false_and, and_false, or_false, false_or, reduceCtorEq, Nat.reduceAdd, Nat.reduceSub, List.append_assoc, eq_self, if_true, if_false, Bool.false_eq_true, decide_eq_true_eq, List.length_cons, List.length_nil]
          have sl := sups_len ol
          have so := sups_ok ol
          refine ⟨p, us, supVs l, rfl, sqL_mk hp', hus, fun x hx => ⟨(so x hx).1, (so x hx).2.mono hb⟩, by omega, fun D H2 us2 hD k2 hd2 ha2 => k D H2 us2 (none0 k1 hD) (k1.trans k2) hd2 ?_⟩
          rw [supV]; exact ha2
theorem ok__law_support (W : Ds K mg) : ∀ n : Nat, FnOk P w K mg base CX0 (n + 3) W.f__law_support W.fd__law_support P__law_support (sp_sup K n)
  | 0 => st__law_support W 0 fnOk_false
  | n + 1 => st__law_support W (n + 1) (ok__law_support W n)
end
end G
set_option Elab.async false
set_option linter.all false
set_option maxRecDepth 100000
set_option maxHeartbeats 1000000
set_option exponentiation.threshold 10000
namespace G
open PySem L2 LamX
theorem int_shown {i : Int} {b : Nat} (hb : 0 < b) (h : i.natAbs < 2 ^ b) : (PyData.shown (.int i)).length ≤ b + 1 := by
  have p : (2 : Nat) ^ b ≤ 10 ^ b := Nat.pow_le_pow_left (by omega) b
  have e : PyData.shown (.int i) = Str.ofString (toString i) := by simp [PyData.shown]
  rw [e, PyProof.Rows.ofString_length]
  cases i with
  | ofNat n =>
    have l := PyProof.Rows.digits10_le (k := b) (n := n) hb (by simp at h; omega)
    have : (toString (Int.ofNat n)).toList = Nat.toDigits 10 n := by
      show (Nat.repr n).toList = _
      simp [Nat.repr]
    rw [this]; omega
  | negSucc n =>
    have l := PyProof.Rows.digits10_le (k := b) (n := n + 1) hb (by simp at h; omega)
    have : (toString (Int.negSucc n)).toList = '-' :: Nat.toDigits 10 (n + 1) := by
      show ("-" ++ Nat.repr (n + 1)).toList = _
      simp [Nat.repr]
    rw [this, List.length_cons]; omega
theorem log2_bits {n b : Nat} (hb : 0 < b) (h : n < 2 ^ b) : n.log2 < b := by
  rcases Nat.eq_zero_or_pos n with h0 | hp
  · rw [h0]; simpa using hb
  · exact (Nat.log2_lt (Nat.ne_of_gt hp)).mpr h
theorem join_len (l : List Str) : (Txt.join " " l).length ≤ (l.map (·.length)).sum + l.length := by
  have := PySem.size_glued " " l
  have e : (" " : Str).length = 1 := by decide +kernel
  unfold Txt.join
  rw [this, e]; omega
theorem ptText_len {x : Pt} (h : Sz 1900 x) : (ptText x).length ≤ 3803 := by
  have h1 := int_shown (b := 1900) (by omega) h.1
  have h2 := int_shown (b := 1900) (by omega) h.2
  have e : ("/" : Str).length = 1 := by decide +kernel
  unfold ptText
  split
  · omega
  · rw [strLen_append, strLen_append, e]; omega
theorem ptTexts_len : ∀ {l : List Pt}, (∀ x ∈ l, Sz 1900 x) → ((l.map ptText).map (·.length)).sum ≤ 3803 * l.length
  | [], _ => by simp
  | x :: l, h => by
    have := ptTexts_len (l := l) fun y hy => h y (by simp [hy])
    have := ptText_len (h x (by simp))
    simp only [List.map_cons, List.sum_cons, List.length_cons]; omega
theorem text_len {n b : Nat} {x : Vl} (h : VOk n b x) : gN n b ≤ 1900 → vw x < 1000 → (textV x).length ≤ 4000 * vw x := by
  have all : ∀ l : List Vl, (∀ v ∈ l, (textV v).length ≤ 4000 * vw v) → ((textVs l).map (·.length)).sum ≤ 4000 * vws l := by
    intro l
    induction l with
    | nil => intro _; simp [textVs]
    | cons x l il => intro q; have := il (fun v hv => q v (by simp [hv])); have := q x (by simp); simp only [textVs, vws, List.map_cons, List.sum_cons]; omega
  have e1 : ("<" : Str).length = 1 := by decide +kernel
  have e2 : (">" : Str).length = 1 := by decide +kernel
  have e3 : ("{" : Str).length = 1 := by decide +kernel
  have e4 : ("|" : Str).length = 1 := by decide +kernel
  have e5 : ("}" : Str).length = 1 := by decide +kernel
  induction h with
  | @word n b s h o => intro _ _; rw [textV, vw]; omega
  | @pt n b x h s => intro hg _; rw [textV, vw]; have := ptText_len (s.mono (Nat.le_trans (gN_ge n b) hg)); omega
  | @row n b vs h0 h ih =>
    intro hg hw
    rw [vw] at hw
    have := all vs fun v hv => ih v hv (Nat.le_trans (gN_succ n b) hg) (by have := vw_mem hv; omega)
    have j := join_len (textVs vs)
    have tl : (textVs vs).length = vs.length := by rw [textVs_map, List.length_map]
    have := vws_len vs
    rw [textV, vw, strLen_append, strLen_append, e1, e2]; omega
  | @set n b ps ms hp h ih =>
    intro hg hw
    rw [vw] at hw
    have := all ms fun v hv => ih v hv hg (by have := vw_mem hv; omega)
    have j := join_len (textVs ms)
    have tl : (textVs ms).length = ms.length := by rw [textVs_map, List.length_map]
    have := vws_len ms
    have := ptTexts_len (l := ps) fun x hx => (hp.sz x hx).mono (Nat.le_trans (gN_ge (n + 1) b) hg)
    have j2 := join_len (ps.map ptText)
    rw [List.length_map] at j2
    rw [textV, vw, strLen_append, strLen_append, strLen_append, strLen_append, e3, e4, e5]; omega
theorem reprI {H : Hp} {K : PySem.W.Frag} {i : Int} {Q : VK} (h : i.natAbs < 2 ^ 1900) (q : Q (.str (PyData.shown (.int i))) H) : rReprD K [.int i] H Q := by
  have l := int_shown (b := 1900) (by omega) h
  have g := log2_bits (b := 1900) (by omega) h
  refine ⟨_, .int i, rfl, .int i, ?_, by simp [PyData.canLay0], by simp [PyData.depth], by rw [sizeLine_eq]; omega, q⟩
  simp only [PyData.showable, decide_eq_true_eq]; omega
theorem strs_of {H : Hp} {K : PySem.W.Frag} : ∀ {vs : List V} {ts : List Str}, DpAll K H vs (ts.map PyData.str) → vs = ts.map V.str
  | _, [], h => by cases h; rfl
  | _, t :: ts, h => by
    cases h with
    | cons h1 h2 => cases h1; rw [strs_of h2]; rfl
theorem strs_tup (ts : List Str) : tupDs (ts.map PyData.str) = true := tupDs_all.mpr fun d h => by
  obtain ⟨x, _, rfl⟩ := List.mem_map.mp h; rfl
section
variable {P : Program} {w : World} {K : PySem.W.Frag} {mg : Str → Option Value} {base : Heap}
/-! ### _law_text -/
def sp_text (K : PySem.W.Frag) (n : Nat) : Sp := fun vs H Q _ => ∃ (v : V) (x : Vl) (b m : Nat), vs = [v] ∧ Dp K H v (vlD x) ∧ m ≤ n ∧ VOk m b x ∧ gN m b ≤ 1900 ∧ vw x < 1000 ∧ ∀ H', Kp M0 H H' → Q (.str (textV x)) H'
theorem st__law_text (W : Ds K mg) (n : Nat) (ih : FnG P w K mg base (n + 1) W.f__law_text W.fd__law_text P__law_text (prevS (sp_text K) n)) : FnG P w K mg base (n + 1 + 1) W.f__law_text W.fd__law_text P__law_text (sp_text K n) := by
  refine fnG_ok W.D__law_text.F sc__law_text (fun vs H Q E h => ?len) (fun cdv A outer s H vs Q E nr hr h => ?body)
  case len =>
    obtain ⟨v, x, b, m, rfl, _⟩ := h
    rfl
  case body =>
    obtain ⟨v, x, b, r, rfl, dx, hr0, ox, hb, hw, k⟩ := h
    have nd := sc__law_text.nd
    have hu := hu_of hr
    have hu64 := hr.units
    have hu65 := hu65_of hr
    refine ⟨_, (pss_cons (ps_if (pt_val (pe_callB (c_isi K) (by rfl) W.T.b_isinstance (by decide +kernel) (pa_cons (pv 0) (pa_cons (pe_bltn (v := .ty "str") (u := .type "str") (by rfl) W.T.b_str (by decide +kernel) (by rfl)) pa_nil))))
     (pss_one (ps_ret (pv 0)))
     pss_nil)
  (pss_cons (ps_if (pt_cmpR (k_eqD K hu64) (pe_ix (k_ixT K) (pv 0) pe_int (fun _ _ => rfl)) pe_str (nomark _))
     (pss_cons (ps_set (i := 2) nd rfl (by first | exact Or.inl rfl | exact Or.inr rfl) (e_bm K (pe_bm PySem.F.plainAttrs_str PySem.F.slot_str_join PySem.F.type_str_join mt_join pe_str (pa_cons (pe_lc (own := [("one", 1)]) rfl nd (i_tup K (pe_ix (k_ixT K) (pv 0) pe_int (fun _ _ => rfl))) (blkOk_by (N := N__law_text) (sc := defScope s__law_text) (by decide +kernel)) (fun _ _ _ _ _ => (pg_name (i := 1) nd rfl (by first | exact Or.inl rfl | exact Or.inr rfl))) (fun _ _ _ _ _ => pts_nil) (fun _ _ _ _ _ => (peG_call ih nr (hr.mono (by first | decide | omega)) rfl W.D__law_text.g W.D__law_text.F.kp W.D__law_text.b (pa_cons (pv 1) pa_nil)))) pa_nil))))
      (pss_one (ps_ret (pe_op op_add_str (pe_op op_add_str (pe_op op_add_str (pe_op op_add_str pe_str (pv 2)) pe_str) (e_bm K (pe_bm PySem.F.plainAttrs_str PySem.F.slot_str_join PySem.F.type_str_join mt_join pe_str (pa_cons (pe_lc (own := [("one", 1)]) rfl nd (i_tup K (pe_ix (k_ixT K) (pv 0) pe_int (fun _ _ => rfl))) (blkOk_by (N := N__law_text) (sc := defScope s__law_text) (by decide +kernel)) (fun _ _ _ _ _ => (pg_name (i := 1) nd rfl (by first | exact Or.inl rfl | exact Or.inr rfl))) (fun _ _ _ _ _ => pts_nil) (fun _ _ _ _ _ => (peG_call ih nr (hr.mono (by first | decide | omega)) rfl W.D__law_text.g W.D__law_text.F.kp W.D__law_text.b (pa_cons (pv 1) pa_nil)))) pa_nil)))) pe_str))))
     pss_nil)
  (pss_cons (ps_if (pt_cmpR (k_eqD K hu64) (pe_ix (k_ixT K) (pv 0) pe_int (fun _ _ => rfl)) pe_str (nomark _))
     (pss_one (ps_ret (pe_op op_add_str (pe_op op_add_str pe_str (e_bm K (pe_bm PySem.F.plainAttrs_str PySem.F.slot_str_join PySem.F.type_str_join mt_join pe_str (pa_cons (pe_lc (own := [("one", 1)]) rfl nd (i_tup K (pe_slice (k_slT K) (pv 0) (po_some pe_int) po_none)) (blkOk_by (N := N__law_text) (sc := defScope s__law_text) (by decide +kernel)) (fun _ _ _ _ _ => (pg_name (i := 1) nd rfl (by first | exact Or.inl rfl | exact Or.inr rfl))) (fun _ _ _ _ _ => pts_nil) (fun _ _ _ _ _ => (peG_call ih nr (hr.mono (by first | decide | omega)) rfl W.D__law_text.g W.D__law_text.F.kp W.D__law_text.b (pa_cons (pv 1) pa_nil)))) pa_nil)))) pe_str)))
     pss_nil)
  (pss_one (ps_ret (pe_ifExp (pt_cmpR (k_eqD K hu64) (pe_ix (k_ixT K) (pv 0) pe_int (fun _ _ => rfl)) pe_int (nomark _)) (pe_callB (c_repr K hu65 nr) (by rfl) W.T.b_repr (by decide +kernel) (pa_cons (pe_ix (k_ixT K) (pv 0) pe_int (fun _ _ => rfl)) pa_nil)) (pe_op op_add_str (pe_op op_add_str (pe_callB (c_repr K hu65 nr) (by rfl) W.T.b_repr (by decide +kernel) (pa_cons (pe_ix (k_ixT K) (pv 0) pe_int (fun _ _ => rfl)) pa_nil)) pe_str) (pe_callB (c_repr K hu65 nr) (by rfl) W.T.b_repr (by decide +kernel) (pa_cons (pe_ix (k_ixT K) (pv 0) pe_int (fun _ _ => rfl)) pa_nil))))))))), ?_⟩
    simp only [tSeq, tIfS, tNext, tRet, tRetN, tAsg, tDrop, tPar, tCons, tNil, tCB, tVar, tC, tOp, rI, rI0, rU, tTest, tB, tTup, tLst, gName, tIf, tAnd, tOr, tNot, tAndV, tOrV, tNotV, tUn, tCall, tChain, tSl, tNoPart, tPart, tBM, tBM0, tDGet, sDPut, tAugS, ipI, tAug, rIxT, rIxL, rMulK, rLenK, rLstK, tTruK, gTup, gCons, gNil, rEq, rNe, scal, tNever, rMulK, rGcd, L2.start, List.map, List.length, List.replicate, List.cons_append, List.nil_append, List.append_nil, List.set, List.set_cons_zero, List.set_cons_succ, List.getElem?_cons_succ, List.getElem?_cons_zero, Option.some.injEq, List.cons.injEq, V.int.injEq, V.str.injEq, V.bl.injEq, V.ref.injEq, and_true, true_and, exists_eq_left, exists_eq_left', exists_eq_right, exists_eq_right', exists_eq, exists_and_left, exists_and_right, and_assoc, exists_false, false_and, and_false, or_false, false_or, reduceCtorEq, Nat.reduceAdd, Nat.reduceSub, List.append_assoc, eq_self, if_true, if_false, Bool.false_eq_true, decide_eq_true_eq, List.length_cons, List.length_nil]
    cases x with
    | word s =>
      obtain rfl := dv_word dx
      refine isi_str ⟨_, rfl, ?_⟩
      rw [if_pos rfl]
      exact k H (Kp.refl H)
    | pt x =>
      obtain ⟨a, rfl, ha⟩ := dv_pt dx
      refine isi_no ha ⟨_, rfl, ?_⟩
      rw [if_neg (by simp)]
      refine ⟨a, rfl, _, ha, _, atI_nat (j := 0) rfl, no_int set_ok ⟨_, rfl, ?_⟩⟩
      rw [if_neg (by simp)]
      refine ⟨a, rfl, _, ha, _, atI_nat (j := 0) rfl, no_int row_ok ⟨_, rfl, ?_⟩⟩
      rw [if_neg (by simp)]
      cases ox with
      | @pt _ b x okx sx =>
        have sz := sx.mono (Nat.le_trans (gN_ge r b) hb)
        have l1 := int_shown (b := 1900) (by omega) sz.1
        have l2 := int_shown (b := 1900) (by omega) sz.2
        have e : ("/" : Str).length = 1 := by decide +kernel
        refine ⟨a, rfl, _, ha, _, atI_nat (j := 1) rfl, eqD (.int _) (.int 1) (i_shaped _) (i_shaped _) (b := decide (x.2 = 1)) (by rw [Bool.eq_iff_iff]; simp [PyData.eqv]) ⟨_, rfl, ite2 (fun c => ?_) (fun c => ?_)⟩⟩
        · have q := k H (Kp.refl H)
          rw [textV] at q; unfold ptText at q; rw [if_pos (of_decide_eq_true c)] at q
          exact ⟨a, rfl, _, ha, _, atI_nat (j := 0) rfl, reprI sz.1 q⟩
        · have q := k H (Kp.refl H)
          rw [textV] at q; unfold ptText at q; rw [if_neg (by simpa using c)] at q
          exact ⟨a, rfl, _, ha, _, atI_nat (j := 0) rfl, reprI sz.1 ⟨_, rfl, by rw [e, sizeLine_eq]; omega, a, rfl, _, ha, _, atI_nat (j := 1) rfl, reprI sz.2 ⟨_, rfl, by rw [strLen_append, e, sizeLine_eq]; omega, q⟩⟩⟩
    | set ps ms =>
      have tl := text_len ox hb hw
      obtain ⟨a, p, m, pw, mw, rfl, ha, hp, dp, hm, dm⟩ := dv_set dx
      refine isi_no ha ⟨_, rfl, ?_⟩
      rw [if_neg (by simp)]
      refine ⟨a, rfl, _, ha, _, atI_nat (j := 0) rfl, is_set ⟨_, rfl, ?_⟩⟩
      rw [if_pos rfl]
      cases ox with
      | @set r b _ _ okp okm =>
       cases n with
       | zero => omega
       | succ n =>
        rw [textV, strLen_append, strLen_append, strLen_append, strLen_append] at tl
        rw [vw] at hw
        rw [vw] at tl
        refine ⟨rfl, tlcT ?_⟩
        simp only [tSeq, tIfS, tNext, tRet, tRetN, tAsg, tDrop, tPar, tCons, tNil, tCB, tVar, tC, tOp, rI, rI0, rU, tTest, tB, tTup, tLst, gName, tIf, tAnd, tOr, tNot, tAndV, tOrV, tNotV, tUn, tCall, tChain, tSl, tNoPart, tPart, tBM, tBM0, tDGet, sDPut, tAugS, ipI, tAug, rIxT, rIxL, rMulK, rLenK, rLstK, tTruK, gTup, gCons, gNil, rEq, rNe, scal, tNever, rMulK, rGcd, L2.start, List.map, List.length, List.replicate, List.cons_append, List.nil_append, List.append_nil, List.set, List.set_cons_zero, List.set_cons_succ, List.getElem?_cons_succ, List.getElem?_cons_zero, Option.some.injEq, List.cons.injEq, V.int.injEq, V.str.injEq, V.bl.injEq, V.ref.injEq, and_true, true_and, exists_eq_left, exists_eq_left', exists_eq_right, exists_eq_right', exists_eq, exists_and_left, exists_and_right, and_assoc, exists_false, false_and, and_false, or_false, false_or, reduceCtorEq, Nat.reduceAdd, Nat.reduceSub, List.append_assoc, eq_self, if_true, if_false, Bool.false_eq_true, decide_eq_true_eq, List.length_cons, List.length_nil]
        refine ⟨_, ha, _, atI_nat (j := 1) rfl, ?_⟩
        refine lcTe kr0 (ps.map ptD) ((ps.map ptText).map PyData.str) trivial (by simp; rw [sizeLine_eq]; omega) (by simp) hp dp (ptDs_tup _) (strs_tup _) (fun i d e x H1 e1 e2 dx' k1 _ Q' q => ?_) (fun D H1 vs hD k1 _ hd1 ha1 => ?_)
        · rw [List.getElem?_map] at e1
          cases e3 : ps[i]? with
          | none => rw [e3] at e1; cases e1
          | some y =>
            rw [e3] at e1; cases e1
            rw [List.getElem?_map, List.getElem?_map, e3] at e2; cases e2
            have my := List.mem_of_getElem? e3
            simp only [tSeq, tIfS, tNext, tRet, tRetN, tAsg, tDrop, tPar, tCons, tNil, tCB, tVar, tC, tOp, rI, rI0, rU, tTest, tB, tTup, tLst, gName, tIf, tAnd, tOr, tNot, tAndV, tOrV, tNotV, tUn, tCall, tChain, tSl, tNoPart, tPart, tBM, tBM0, tDGet, sDPut, tAugS, ipI, tAug, rIxT, rIxL, rMulK, rLenK, rLstK, tTruK, gTup, gCons, gNil, rEq, rNe, scal, tNever, rMulK, rGcd, L2.start, List.map, List.length, List.replicate, List.cons_append, List.nil_append, List.append_nil, List.set, List.set_cons_zero, List.set_cons_succ, List.getElem?_cons_succ, List.getElem?_cons_zero, Option.some.injEq, List.cons.injEq, V.int.injEq, V.str.injEq, V.bl.injEq, V.ref.injEq, and_true, true_and, exists_eq_left, exists_eq_left', exists_eq_right, exists_eq_right', exists_eq, exists_and_left, exists_and_right, and_assoc, exists_false, false_and, and_false, or_false, false_or, reduceCtorEq, Nat.reduceAdd, Nat.reduceSub, List.append_assoc, eq_self, if_true, if_false, Bool.false_eq_true, decide_eq_true_eq, List.length_cons, List.length_nil]
            exact ⟨x, .pt y, b, r, rfl, by rw [vlD]; exact dx', by omega, .pt (okp.ok y my) (okp.sz y my), Nat.le_trans (gN_succ r b) hb, by simp [vw], fun H4 k4 => q _ _ k4 trivial (by rw [textV]; exact .str _)⟩
        · have vse := strs_of ha1
          subst vse
          have j1 := join_len (ps.map ptText)
          have j3 := ptTexts_len (l := ps) fun x hx => (okp.sz x hx).mono (Nat.le_trans (gN_ge (r + 1) b) hb)
          rw [List.length_map] at j1
          have sp : (" " : Str).length = 1 := by decide +kernel
          have e3 : ("{" : Str).length = 1 := by decide +kernel
          have e4 : ("|" : Str).length = 1 := by decide +kernel
          have e5 : ("}" : Str).length = 1 := by decide +kernel
          rw [e3, e4, e5] at tl
          refine ⟨D, rfl, ps.map ptText, Or.inl (sqL_mk hd1), by rw [sp, List.length_map]; omega, by rw [e3, sizeLine_eq]; omega, by rw [strLen_append, e3, e4, sizeLine_eq]; omega, rfl, tlcT ?_⟩
          simp only [tSeq, tIfS, tNext, tRet, tRetN, tAsg, tDrop, tPar, tCons, tNil, tCB, tVar, tC, tOp, rI, rI0, rU, tTest, tB, tTup, tLst, gName, tIf, tAnd, tOr, tNot, tAndV, tOrV, tNotV, tUn, tCall, tChain, tSl, tNoPart, tPart, tBM, tBM0, tDGet, sDPut, tAugS, ipI, tAug, rIxT, rIxL, rMulK, rLenK, rLstK, tTruK, gTup, gCons, gNil, rEq, rNe, scal, tNever, rMulK, rGcd, L2.start, List.map, List.length, List.replicate, List.cons_append, List.nil_append, List.append_nil, List.set, List.set_cons_zero, List.set_cons_succ, List.getElem?_cons_succ, List.getElem?_cons_zero, Option.some.injEq, List.cons.injEq, V.int.injEq, V.str.injEq, V.bl.injEq, V.ref.injEq, and_true, true_and, exists_eq_left, exists_eq_left', exists_eq_right, exists_eq_right', exists_eq, exists_and_left, exists_and_right, and_assoc, exists_false, false_and, and_false, or_false, false_or, reduceCtorEq, Nat.reduceAdd, Nat.reduceSub, List.append_assoc, eq_self, if_true, if_false, Bool.false_eq_true, decide_eq_true_eq, List.length_cons, List.length_nil]
          refine ⟨_, sqT_tk (Tk.of0 k1) ha, _, atI_nat (j := 2) rfl, ?_⟩
          refine lcTe kr0 (ms.map vlD) ((textVs ms).map PyData.str) trivial (by simp [textVs_map]; rw [sizeLine_eq]; have := vws_len ms; omega) (by simp [textVs_map]) (sqT_tk (Tk.of0 k1) hm) (dvs_tk dm (Tk.of0 k1)) (vls_tup _) (strs_tup _) (fun i d e x H2 e1 e2 dx' k2 _ Q' q => ?_) (fun D2 H2 vs hD2 k2 _ hd2 ha2 => ?_)
          · rw [List.getElem?_map] at e1
            cases e3 : ms[i]? with
            | none => rw [e3] at e1; cases e1
            | some y =>
              rw [e3] at e1; cases e1
              rw [List.getElem?_map, textVs_map, List.getElem?_map, e3] at e2; cases e2
              have my := List.mem_of_getElem? e3
              have wy := vw_mem my
              simp only [tSeq, tIfS, tNext, tRet, tRetN, tAsg, tDrop, tPar, tCons, tNil, tCB, tVar, tC, tOp, rI, rI0, rU, tTest, tB, tTup, tLst, gName, tIf, tAnd, tOr, tNot, tAndV, tOrV, tNotV, tUn, tCall, tChain, tSl, tNoPart, tPart, tBM, tBM0, tDGet, sDPut, tAugS, ipI, tAug, rIxT, rIxL, rMulK, rLenK, rLstK, tTruK, gTup, gCons, gNil, rEq, rNe, scal, tNever, rMulK, rGcd, L2.start, List.map, List.length, List.replicate, List.cons_append, List.nil_append, List.append_nil, List.set, List.set_cons_zero, List.set_cons_succ, List.getElem?_cons_succ, List.getElem?_cons_zero, Option.some.injEq, List.cons.injEq, V.int.injEq, V.str.injEq, V.bl.injEq, V.ref.injEq, and_true, true_and, exists_eq_left, exists_eq_left', exists_eq_right, exists_eq_right', exists_eq, exists_and_left, exists_and_right, and_assoc, exists_false, false_and, and_false, or_false, false_or, reduceCtorEq, Nat.reduceAdd, Nat.reduceSub, List.append_assoc, eq_self, if_true, if_false, Bool.false_eq_true, decide_eq_true_eq, List.length_cons, List.length_nil]
              exact ⟨x, y, gB b, r, rfl, dx', by omega, okm y my, hb, by omega, fun H4 k4 => q _ _ k4 trivial (.str _)⟩
          · have vse := strs_of ha2
            subst vse
            have j2 := join_len (textVs ms)
            have tlm : (textVs ms).length = ms.length := by rw [textVs_map, List.length_map]
            have q := k H2 (k1.trans k2)
            rw [textV] at q
            have all : ∀ l : List Vl, (∀ v ∈ l, (textV v).length ≤ 4000 * vw v) → ((textVs l).map (·.length)).sum ≤ 4000 * vws l := by
              intro l
              induction l with
              | nil => intro _; simp [textVs]
              | cons x l il => intro q; have := il (fun v hv => q v (by simp [hv])); have := q x (by simp); simp only [textVs, vws, List.map_cons, List.sum_cons]; omega
            have am := all ms fun v hv => text_len (okm v hv) hb (by have := vw_mem hv; omega)
            have vl := vws_len ms
            exact ⟨D2, rfl, textVs ms, Or.inl (sqL_mk hd2), by rw [sp, tlm]; omega, by rw [strLen_append, strLen_append, e3, e4, sizeLine_eq]; omega, by rw [strLen_append, strLen_append, strLen_append, e3, e4, e5, sizeLine_eq]; omega, q⟩
    | row l =>
      have tl := text_len ox hb hw
      obtain ⟨a, ws, rfl, ha, da⟩ := dv_row dx
      refine isi_no ha ⟨_, rfl, ?_⟩
      rw [if_neg (by simp)]
      refine ⟨a, rfl, _, ha, _, atI_nat (j := 0) rfl, no_set ⟨_, rfl, ?_⟩⟩
      rw [if_neg (by simp)]
      refine ⟨a, rfl, _, ha, _, atI_nat (j := 0) rfl, is_row ⟨_, rfl, ?_⟩⟩
      rw [if_pos rfl]
      cases ox with
      | @row r b _ h0 ol =>
       cases n with
       | zero => omega
       | succ n =>
        rw [textV, strLen_append, strLen_append] at tl
        rw [vw] at hw
        rw [vw] at tl
        refine ⟨rfl, tlcT ?_⟩
        simp only [tSeq, tIfS, tNext, tRet, tRetN, tAsg, tDrop, tPar, tCons, tNil, tCB, tVar, tC, tOp, rI, rI0, rU, tTest, tB, tTup, tLst, gName, tIf, tAnd, tOr, tNot, tAndV, tOrV, tNotV, tUn, tCall, tChain, tSl, tNoPart, tPart, tBM, tBM0, tDGet, sDPut, tAugS, ipI, tAug, rIxT, rIxL, rMulK, rLenK, rLstK, tTruK, gTup, gCons, gNil, rEq, rNe, scal, tNever, rMulK, rGcd, L2.start, List.map, List.length, List.replicate, List.cons_append, List.nil_append, List.append_nil, List.set, List.set_cons_zero, List.set_cons_succ, List.getElem?_cons_succ, List.getElem?_cons_zero, Option.some.injEq, List.cons.injEq, V.int.injEq, V.str.injEq, V.bl.injEq, V.ref.injEq, and_true, true_and, exists_eq_left, exists_eq_left', exists_eq_right, exists_eq_right', exists_eq, exists_and_left, exists_and_right, and_assoc, exists_false, false_and, and_false, or_false, false_or, reduceCtorEq, Nat.reduceAdd, Nat.reduceSub, List.append_assoc, eq_self, if_true, if_false, Bool.false_eq_true, decide_eq_true_eq, List.length_cons, List.length_nil]
        refine slRest ha fun t ht => ?_
        refine lcTe kr0 (l.map vlD) ((textVs l).map PyData.str) trivial (by simp [textVs_map]; rw [sizeLine_eq]; have := vws_len l; omega) (by simp [textVs_map]) (sqT_mk upd_same) (dvs_tk da (Tk.new ht)) (vls_tup _) (strs_tup _) (fun i d e x H2 e1 e2 dx' k2 _ Q' q => ?_) (fun D2 H2 vs hD2 k2 _ hd2 ha2 => ?_)
        · rw [List.getElem?_map] at e1
          cases e3 : l[i]? with
          | none => rw [e3] at e1; cases e1
          | some y =>
            rw [e3] at e1; cases e1
            rw [List.getElem?_map, textVs_map, List.getElem?_map, e3] at e2; cases e2
            have my := List.mem_of_getElem? e3
            have wy := vw_mem my
            simp only [tSeq, tIfS, tNext, tRet, tRetN, tAsg, tDrop, tPar, tCons, tNil, tCB, tVar, tC, tOp, rI, rI0, rU, tTest, tB, tTup, tLst, gName, tIf, tAnd, tOr, tNot, tAndV, tOrV, tNotV, tUn, tCall, tChain, tSl, tNoPart, tPart, tBM, tBM0, tDGet, sDPut, tAugS, ipI, tAug, rIxT, rIxL, rMulK, rLenK, rLstK, tTruK, gTup, gCons, gNil, rEq, rNe, scal, tNever, rMulK, rGcd, L2.start, List.map, List.length, List.replicate, List.cons_append, List.nil_append, List.append_nil, List.set, List.set_cons_zero, List.set_cons_succ, List.getElem?_cons_succ, List.getElem?_cons_zero, Option.some.injEq, List.cons.injEq, V.int.injEq, V.str.injEq, V.bl.injEq, V.ref.injEq, and_true, true_and, exists_eq_left, exists_eq_left', exists_eq_right, exists_eq_right', exists_eq, exists_and_left, exists_and_right, and_assoc, exists_false, false_and, and_false, or_false, false_or, reduceCtorEq, Nat.reduceAdd, Nat.reduceSub, List.append_assoc, eq_self, if_true, if_false, Bool.false_eq_true, decide_eq_true_eq, List.length_cons, List.length_nil]
            exact ⟨x, y, b, r, rfl, dx', by omega, ol y my, Nat.le_trans (gN_succ r b) hb, by omega, fun H4 k4 => q _ _ k4 trivial (.str _)⟩
        · have vse := strs_of ha2
          subst vse
          have j2 := join_len (textVs l)
          have tlm : (textVs l).length = l.length := by rw [textVs_map, List.length_map]
          have q := k H2 ((Kp.new ht).trans k2)
          rw [textV] at q
          have sp : (" " : Str).length = 1 := by decide +kernel
          have e1 : ("<" : Str).length = 1 := by decide +kernel
          have e2 : (">" : Str).length = 1 := by decide +kernel
          rw [e1, e2] at tl
          have all : ∀ l : List Vl, (∀ v ∈ l, (textV v).length ≤ 4000 * vw v) → ((textVs l).map (·.length)).sum ≤ 4000 * vws l := by
            intro l
            induction l with
            | nil => intro _; simp [textVs]
            | cons x l il => intro q; have := il (fun v hv => q v (by simp [hv])); have := q x (by simp); simp only [textVs, vws, List.map_cons, List.sum_cons]; omega
          have am := all l fun v hv => text_len (ol v hv) (Nat.le_trans (gN_succ r b) hb) (by have := vw_mem hv; omega)
          have vl := vws_len l
          exact ⟨D2, rfl, textVs l, Or.inl (sqL_mk hd2), by rw [sp, tlm]; omega, by rw [e1, sizeLine_eq]; omega, by rw [strLen_append, e1, e2, sizeLine_eq]; omega, q⟩
theorem ok__law_text (W : Ds K mg) : ∀ n : Nat, FnG P w K mg base (n + 2) W.f__law_text W.fd__law_text P__law_text (sp_text K n)
  | 0 => st__law_text W 0 fnG_false
  | n + 1 => st__law_text W (n + 1) (ok__law_text W n)
end
end G
set_option Elab.async false
set_option linter.all false
set_option maxRecDepth 100000
set_option maxHeartbeats 2000000
set_option exponentiation.threshold 10000
namespace G
open PySem L2 LamX
section
variable {P : Program} {w : World} {K : PySem.W.Frag} {mg : Str → Option Value} {base : Heap}
/-! ### _law_ends -/
def sp__law_ends (K : PySem.W.Frag) : Sp := fun vs H Q _ => ∃ (a b c : Addr) (oa na fa : List V) (olds news fs : List Pt), vs = [.ref a, .ref b, .ref c] ∧ H a = some (.lst oa) ∧ H b = some (.lst na) ∧ H c = some (.lst fa) ∧
  DpAll K H oa (olds.map ptD) ∧ DpAll K H na (news.map ptD) ∧ DpAll K H fa (fs.map ptD) ∧ (∃ bo, bo ≤ 4000 ∧ PtsOk bo olds ∧ ∀ x ∈ fs, PtOk x ∧ Sz bo x) ∧ (∃ b, PtsOk b news ∧ gB b ≤ 4000 ∧ b ≤ 1000) ∧ olds.length = news.length ∧ olds.length < 2000 ∧ fs.length < 1000 ∧
  ∀ (t d e : Addr) (H' : Hp) (ds es : List V), Kp M0 H H' → SqT K H' t [.ref d, .ref e] → H' d = some (.lst ds) → H' e = some (.lst es) → DpAll K H' ds ((endsP olds news fs).1.map ptD) → DpAll K H' es ((endsP olds news fs).2.map ptD) → Q (.ref t) H'
theorem gaps_snoc (ps news fs : List Pt) (k : Nat) : gapsP ps news fs (k + 1) = gapsP ps news fs k ++ spreadP news k (gapN ps fs k) := by
  unfold gapsP
  rw [List.range_succ, List.flatMap_append]; simp
theorem gaps_le (ps news fs : List Pt) : ∀ k : Nat, (gapsP ps news fs k).length ≤ k * fs.length
  | 0 => by simp [gapsP]
  | k + 1 => by
    have := gaps_le ps news fs k
    have := gapN_le ps fs k
    rw [gaps_snoc, List.length_append, Nat.succ_mul]
    have e : (spreadP news k (gapN ps fs k)).length = gapN ps fs k := by simp [spreadP]
    omega
theorem filter_gap (ps l : List Pt) (g : Nat) : ((l.map ptD).filter fun d => match d with | .tuple [.int p, .int q] => decide (lessN ps (p, q) = g) | _ => false) = (l.filter fun y => decide (lessN ps y = g)).map ptD := by
  rw [List.filter_map]; rfl
def EndI (K : PySem.W.Frag) (a b c : Addr) (olds news fs : List Pt) (H : Hp) (i : Nat) (σ : L2.St) (H' : Hp) : Prop := ∃ (p : Addr) (us : List V) (v4 v6 : Option V), σ = [some (.ref a), some (.ref b), some (.ref c), some (.ref p), v4, none, v6] ∧ Kp M0 H H' ∧ H p = none ∧ H' p = some (.lst us) ∧ DpAll K H' us ((news ++ gapsP olds news fs i).map ptD)
theorem ok__law_ends (W : Ds K mg) : FnOk P w K mg base CX0 3 W.f__law_ends W.fd__law_ends P__law_ends (sp__law_ends K) := by
  refine W.D__law_ends.F.ok sc__law_ends (fun vs H Q E h => ?len) (fun cdv A outer s H vs Q E hr h => ?body)
  case len =>
    obtain ⟨a, b, c, oa, na, fa, olds, news, fs, rfl, _⟩ := h
    rfl
  case body =>
    obtain ⟨a, b, c, oa, na, fa, olds, news, fs, rfl, sa, sb, sc, da, db, dc, ⟨bo, hbo, oo, of⟩, ⟨bn, on, hg, hb⟩, hl, hlo, hlf, k⟩ := h
    have nd := sc__law_ends.nd
    have hu := hu_of hr
    have hu64 := hr.units
    have hu65 := hu65_of hr
    refine ⟨_, (pss_cons (ps_set (i := 3) nd rfl (by first | exact Or.inl rfl | exact Or.inr rfl) (pe_callTy (c_list K) (by rfl) W.T.b_list (by decide +kernel) (pa_cons (pv 1) pa_nil)))
  (pss_cons (ps_for PassesOwn.never rfl (pi_range1 rfl W.T.b_range (pa_cons (pe_op op_add (pe_callB (c_len K) (by rfl) W.T.b_len (by decide +kernel) (pa_cons (pv 0) pa_nil)) pe_int) pa_nil)) (pg_name (i := 4) nd rfl (by first | exact Or.inl rfl | exact Or.inr rfl))
     (pss_cons (ps_set (i := 6) nd rfl (by first | exact Or.inl rfl | exact Or.inr rfl) (pe_callB (c_len K) (by rfl) W.T.b_len (by decide +kernel) (pa_cons (pe_lc (own := [("one", 5)]) rfl nd (i_list K (pv 2)) (blkOk_by (N := N__law_ends) (sc := defScope s__law_ends) (by decide +kernel)) (fun _ _ _ _ _ => (pg_name (i := 5) nd rfl (by first | exact Or.inl rfl | exact Or.inr rfl))) (fun _ _ _ _ _ => (pts_one (pt_cmpR op_eq (pe_call (ok__law_gap W) (hr.mono (by first | decide | omega)) rfl W.D__law_gap.g W.D__law_gap.F.kp W.D__law_gap.b .nil pass0 (pa_cons (pv 0) (pa_cons (pv 5) pa_nil))) (pv 4) (nomark _)))) (fun _ _ _ _ _ => (pv 5))) pa_nil)))
      (pss_one (ps_set (i := 3) nd rfl (by first | exact Or.inl rfl | exact Or.inr rfl) (pe_op op_cat (pv 3) (pe_call (ok__law_spread W) (hr.mono (by first | decide | omega)) rfl W.D__law_spread.g W.D__law_spread.F.kp W.D__law_spread.b .nil pass0 (pa_cons (pv 1) (pa_cons (pv 4) (pa_cons (pv 6) pa_nil)))))))))
  (pss_one (ps_ret (pe_tup (pa_cons (pe_call (ok__law_ascending W) (hr.mono (by first | decide | omega)) rfl W.D__law_ascending.g W.D__law_ascending.F.kp W.D__law_ascending.b .nil pass0 (pa_cons (pe_op op_cat (pv 0) (pv 2)) pa_nil)) (pa_cons (pe_call (ok__law_ascending W) (hr.mono (by first | decide | omega)) rfl W.D__law_ascending.g W.D__law_ascending.F.kp W.D__law_ascending.b .nil pass0 (pa_cons (pv 3) pa_nil)) pa_nil))))))), ?_⟩
    simp only [tSeq, tIfS, tNext, tRet, tRetN, tAsg, tDrop, tPar, tCons, tNil, tCB, tVar, tC, tOp, rI, rI0, rU, tTest, tB, tTup, tLst, gName, tIf, tAnd, tOr, tNot, tAndV, tOrV, tNotV, tUn, tCall, tChain, tSl, tNoPart, tPart, tBM, tBM0, tDGet, sDPut, tAugS, ipI, tAug, rIxT, rIxL, rMulK, rLenK, rLstK, tTruK, gTup, gCons, gNil, rEq, rNe, scal, tNever, rMulK, rGcd, L2.start, List.map, List.length, List.replicate, List.cons_append, List.nil_append, List.append_nil, List.set, List.set_cons_zero, List.set_cons_succ, List.getElem?_cons_succ, List.getElem?_cons_zero, Option.some.injEq, List.cons.injEq, V.int.injEq, V.str.injEq, V.bl.injEq, V.ref.injEq, and_true, true_and, exists_eq_left, exists_eq_left', exists_eq_right, exists_eq_right', exists_eq, exists_and_left, exists_and_right, and_assoc, exists_false, false_and, and_false, or_false, false_or, reduceCtorEq, Nat.reduceAdd, Nat.reduceSub, List.append_assoc, eq_self, if_true, if_false, Bool.false_eq_true, decide_eq_true_eq, List.length_cons, List.length_nil]
    have ol : oa.length = olds.length := by rw [dps_len da, List.length_map]
    have nl : na.length = news.length := by rw [dps_len db, List.length_map]
    have fl : fa.length = fs.length := by rw [dps_len dc, List.length_map]
    refine ⟨na, Or.inl (sqL_mk sb), fun l hl0 => ?_⟩
    have kl := Kp.new (M := M0) (o := .lst na) hl0
    refine tforR ?_
    simp only [tSeq, tIfS, tNext, tRet, tRetN, tAsg, tDrop, tPar, tCons, tNil, tCB, tVar, tC, tOp, rI, rI0, rU, tTest, tB, tTup, tLst, gName, tIf, tAnd, tOr, tNot, tAndV, tOrV, tNotV, tUn, tCall, tChain, tSl, tNoPart, tPart, tBM, tBM0, tDGet, sDPut, tAugS, ipI, tAug, rIxT, rIxL, rMulK, rLenK, rLstK, tTruK, gTup, gCons, gNil, rEq, rNe, scal, tNever, rMulK, rGcd, L2.start, List.map, List.length, List.replicate, List.cons_append, List.nil_append, List.append_nil, List.set, List.set_cons_zero, List.set_cons_succ, List.getElem?_cons_succ, List.getElem?_cons_zero, Option.some.injEq, List.cons.injEq, V.int.injEq, V.str.injEq, V.bl.injEq, V.ref.injEq, and_true, true_and, exists_eq_left, exists_eq_left', exists_eq_right, exists_eq_right', exists_eq, exists_and_left, exists_and_right, and_assoc, exists_false, false_and, and_false, or_false, false_or, reduceCtorEq, Nat.reduceAdd, Nat.reduceSub, List.append_assoc, eq_self, if_true, if_false, Bool.false_eq_true, decide_eq_true_eq, List.length_cons, List.length_nil]
    refine ⟨oa, Or.inl (sqL_mk (kl _ _ sa fun z => z)), ?_⟩
    refine ⟨_, rfl, by omega, by omega, ?_⟩
    rw [show ((oa.length : Int) + 1).toNat = olds.length + 1 by omega]
    refine for_range (n := olds.length + 1) (lo := 0) (EndI K a b c olds news fs H) ?_ ?_ ?_
    · exact ⟨l, na, none, none, rfl, kl, hl0, upd_same, by simp only [gapsP, List.range_zero, List.flatMap_nil, List.append_nil]; exact pts_tk db (Tk.of0 kl)⟩
    · rintro i σ H' hi ⟨p, us, v4, v6, rfl, k1, hp, hp', hus⟩
      simp only [tSeq, tIfS, tNext, tRet, tRetN, tAsg, tDrop, tPar, tCons, tNil, tCB, tVar, tC, tOp, rI, rI0, rU, tTest, tB, tTup, tLst, gName, tIf, tAnd, tOr, tNot, tAndV, tOrV, tNotV, tUn, tCall, tChain, tSl, tNoPart, tPart, tBM, tBM0, tDGet, sDPut, tAugS, ipI, tAug, rIxT, rIxL, rMulK, rLenK, rLstK, tTruK, gTup, gCons, gNil, rEq, rNe, scal, tNever, rMulK, rGcd, L2.start, List.map, List.length, List.replicate, List.cons_append, List.nil_append, List.append_nil, List.set, List.set_cons_zero, List.set_cons_succ, List.getElem?_cons_succ, List.getElem?_cons_zero, Option.some.injEq, List.cons.injEq, V.int.injEq, V.str.injEq, V.bl.injEq, V.ref.injEq, and_true, true_and, exists_eq_left, exists_eq_left', exists_eq_right, exists_eq_right', exists_eq, exists_and_left, exists_and_right, and_assoc, exists_false, false_and, and_false, or_false, false_or, reduceCtorEq, Nat.reduceAdd, Nat.reduceSub, List.append_assoc, eq_self, if_true, if_false, Bool.false_eq_true, decide_eq_true_eq, List.length_cons, List.length_nil]
      have hz : (0 : Int) + (i : Nat) = (i : Nat) := by omega
      rw [hz]
      have sa1 := k1 _ _ sa fun z => z
      have sb1 := k1 _ _ sb fun z => z
      have sc1 := k1 _ _ sc fun z => z
      have da1 := pts_tk da (Tk.of0 k1)
      have db1 := pts_tk db (Tk.of0 k1)
      have dc1 := pts_tk dc (Tk.of0 k1)
      refine tlcL ?_
      refine ⟨_, rfl, lcL (fs.map ptD) (fun d => match d with | .tuple [.int p, .int q] => decide (lessN olds (p, q) = i) | _ => false) id (by rw [List.length_map, sizeLine_eq]; omega) (sqL_mk sc1) dc1 (ptDs_tup _) (fun d h _ => tupDs_all.mp (ptDs_tup _) d h) (fun j d z H1 e dz k2 Q' q => ?_) (fun j d z H1 e _ dz k2 Q' q => ⟨z, rfl, q _ _ (Kp.refl _) dz⟩) fun D H1 vs hD k2 hd1 ha => ?_⟩
      · obtain ⟨x, hx, rfl⟩ := List.mem_map.mp (List.mem_of_getElem? e)
        simp only [tSeq, tIfS, tNext, tRet, tRetN, tAsg, tDrop, tPar, tCons, tNil, tCB, tVar, tC, tOp, rI, rI0, rU, tTest, tB, tTup, tLst, gName, tIf, tAnd, tOr, tNot, tAndV, tOrV, tNotV, tUn, tCall, tChain, tSl, tNoPart, tPart, tBM, tBM0, tDGet, sDPut, tAugS, ipI, tAug, rIxT, rIxL, rMulK, rLenK, rLstK, tTruK, gTup, gCons, gNil, rEq, rNe, scal, tNever, rMulK, rGcd, L2.start, List.map, List.length, List.replicate, List.cons_append, List.nil_append, List.append_nil, List.set, List.set_cons_zero, List.set_cons_succ, List.getElem?_cons_succ, List.getElem?_cons_zero, Option.some.injEq, List.cons.injEq, V.int.injEq, V.str.injEq, V.bl.injEq, V.ref.injEq, and_true, true_and, exists_eq_left, exists_eq_left', exists_eq_right, exists_eq_right', exists_eq, exists_and_left, exists_and_right, and_assoc, exists_false, false_and, and_false, or_false, false_or, reduceCtorEq, Nat.reduceAdd, Nat.reduceSub, List.append_assoc, eq_self, if_true, if_false, Bool.false_eq_true, decide_eq_true_eq, List.length_cons, List.length_nil]
        refine ⟨a, z, oa, olds, x, rfl, sqL_mk (k2 _ _ sa1 fun z => z), pts_tk da1 (Tk.of0 k2), dz, fun y hy => (oo.sz y hy).mono hbo, (of x hx).2.mono hbo, by omega, fun H3 k3 => ?_⟩
        refine ⟨rfl, ?_⟩
        have q0 := q H3 k3
        show Q' (decide (V.int ((lessN olds x : Nat) : Int) = V.int ((i : Nat) : Int))) H3
        have e1 : decide (V.int ((lessN olds x : Nat) : Int) = V.int ((i : Nat) : Int)) = decide (lessN olds x = i) := by
          by_cases z : lessN olds x = i
          · rw [z, decide_eq_true rfl, decide_eq_true rfl]
          · rw [decide_eq_false z, decide_eq_false fun y => z (by injection y with y; omega)]
        rw [e1]
        exact q0
      · rw [filter_gap, List.map_id] at ha
        have vl : vs.length = gapN olds fs i := by rw [dps_len ha, List.length_map]; rfl
        refine ⟨D, rfl, vs, Or.inl (sqL_mk hd1), ?_⟩
        have gl := gapN_le olds fs i
        rw [vl]
        refine ⟨b, na, news, i, _, rfl, sqL_mk (k2 _ _ sb1 fun z => z), pts_tk db1 (Tk.of0 k2), on.mono hb, by omega, by omega, by omega, fun D2 H2 us2 hD2 k3 hd2 ha2 => ?_⟩
        have hp2 := k3 _ _ (k2 _ _ hp' fun z => z) fun z => z
        have ul : us.length = (news ++ gapsP olds news fs i).length := by rw [dps_len hus, List.length_map]
        have g1 := gaps_le olds news fs i
        have g2 : i * fs.length ≤ 2000 * 1000 := Nat.mul_le_mul (by omega) (by omega)
        have u2 : us2.length = gapN olds fs i := by rw [dps_len ha2, List.length_map]; simp [spreadP]
        rw [List.length_append] at ul
        refine ⟨p, D2, us, us2, rfl, rfl, hp2, hd2, by rw [sizeLine_eq]; omega, fun q hq => ⟨q, us ++ us2, _, _, rfl, ((k1.trans k2).trans k3).trans (Kp.new hq), none0 ((k1.trans k2).trans k3) hq, upd_same, ?_⟩⟩
        rw [gaps_snoc, ← List.append_assoc, List.map_append]
        exact dps_app (pts_tk hus (Tk.of0 ((k2.trans k3).trans (Kp.new hq)))) (pts_tk ha2 (Tk.new hq))
    · rintro σ H' ⟨p, us, v4, v6, rfl, k1, hp, hp', hus⟩
      simp only [tSeq, tIfS, tNext, tRet, tRetN, tAsg, tDrop, tPar, tCons, tNil, tCB, tVar, tC, tOp, rI, rI0, rU, tTest, tB, tTup, tLst, gName, tIf, tAnd, tOr, tNot, tAndV, tOrV, tNotV, tUn, tCall, tChain, tSl, tNoPart, tPart, tBM, tBM0, tDGet, sDPut, tAugS, ipI, tAug, rIxT, rIxL, rMulK, rLenK, rLstK, tTruK, gTup, gCons, gNil, rEq, rNe, scal, tNever, rMulK, rGcd, L2.start, List.map, List.length, List.replicate, List.cons_append, List.nil_append, List.append_nil, List.set, List.set_cons_zero, List.set_cons_succ, List.getElem?_cons_succ, List.getElem?_cons_zero, Option.some.injEq, List.cons.injEq, V.int.injEq, V.str.injEq, V.bl.injEq, V.ref.injEq, and_true, true_and, exists_eq_left, exists_eq_left', exists_eq_right, exists_eq_right', exists_eq, exists_and_left, exists_and_right, and_assoc, exists_false, false_and, and_false, or_false, false_or, reduceCtorEq, Nat.reduceAdd, Nat.reduceSub, List.append_assoc, eq_self, if_true, if_false, Bool.false_eq_true, decide_eq_true_eq, List.length_cons, List.length_nil]
      have sa1 := k1 _ _ sa fun z => z
      have sc1 := k1 _ _ sc fun z => z
      refine ⟨a, c, oa, fa, rfl, rfl, sa1, sc1, by rw [sizeLine_eq]; omega, fun q1 hq1 => ?_⟩
      refine ⟨q1, oa ++ fa, olds ++ fs, rfl, sqL_mk upd_same, by rw [List.map_append]; exact dps_app (pts_tk da (Tk.of0 (k1.trans (Kp.new hq1)))) (pts_tk dc (Tk.of0 (k1.trans (Kp.new hq1)))), fun x hx => ?_, by rw [List.length_append]; omega, fun D1 H1 us1 hD1 k2 hd1 ha1 => ?_⟩
      · rcases List.mem_append.mp hx with z | z
        · exact ⟨oo.ok x z, (oo.sz x z).mono hbo⟩
        · exact ⟨(of x z).1, (of x z).2.mono hbo⟩
      have kk : Kp M0 H' H1 := (Kp.new hq1).trans k2
      have ul : us.length = (news ++ gapsP olds news fs (olds.length + 1)).length := by rw [dps_len hus, List.length_map]
      have g1 := gaps_le olds news fs (olds.length + 1)
      obtain ⟨_, g3⟩ := gaps_ok (ps := olds) (fs := fs) (k := olds.length + 1) on (by omega) hlf
      refine ⟨p, us, news ++ gapsP olds news fs (olds.length + 1), rfl, sqL_mk (kk _ _ hp' fun z => z), pts_tk hus (Tk.of0 kk), fun x hx => ?_, ?_, fun D2 H2 us2 hD2 k3 hd2 ha2 => ?_⟩
      · rcases List.mem_append.mp hx with z | z
        · exact ⟨on.ok x z, (on.sz x z).mono (by unfold gB at hg; omega)⟩
        · exact ⟨(g3 x z).1, (g3 x z).2.1.mono hg⟩
      · rw [List.length_append, gaps_len, gapN_sum olds _ fs fun x _ => Nat.lt_succ_of_le less_le]; omega
      · refine ⟨by decide, fun t ht => ?_⟩
        have d1 := k3 _ _ hd1 fun z => z
        have nd1 : D1 ≠ t := ne_of_none d1 ht
        have nd2 : D2 ≠ t := ne_of_none hd2 ht
        refine k t D1 D2 _ us1 us2 (((k1.trans kk).trans k3).trans (Kp.new ht)) (sqT_mk upd_same) (by rw [upd_ne nd1]; exact d1) (by rw [upd_ne nd2]; exact hd2) ?_ ?_
        · exact pts_tk ha1 (Tk.of0 (k3.trans (Kp.new ht)))
        · exact pts_tk ha2 (Tk.new ht)
end
end G
set_option Elab.async false
set_option linter.all false
set_option maxRecDepth 100000
set_option maxHeartbeats 4000000
set_option exponentiation.threshold 10000
namespace G
open PySem L2 LamX NdefX
/-- a def's code object and its table -/
structure LamT (base : Heap) (mg : Str → Option Value) (T : List (Addr × Str)) (fd : FuncData) (q : Str) where
  c : Addr
  t : Addr
  code : fd.code = .ref c
  tb : TabB base mg c t
  mem : (t, q ++ ".<locals>." ++ "<lambda>") ∈ T
  uni : ∀ p ∈ T, p.1 = t → p.2 = q ++ ".<locals>." ++ "<lambda>"
structure Tbs {K : PySem.W.Frag} {mg : Str → Option Value} (W : Ds K mg) (base : Heap) where
  T : List (Addr × Str)
  by_texts : LamT base mg T W.fd_by_texts "by_texts"
  moved : LamT base mg T W.fd__law_moved "_law_moved"
  made : LamT base mg T W.fd__law_made "_law_made"
section
variable {P : Program} {w : World} {K : PySem.W.Frag} {mg : Str → Option Value} {base : Heap}
def sp_moved (K : PySem.W.Frag) (T : List (Addr × Str)) (n : Nat) : Sp := fun vs H Q _ => ∃ (v : V) (a b : Addr) (x : Vl) (oa na : List V) (olds news : List Pt) (bo bn : Nat), vs = [v, .ref a, .ref b] ∧ Dp K H v (vlD x) ∧ VOk n bo x ∧ gN n bo ≤ 1900 ∧ vw x < 1000 ∧
  H a = some (.lst oa) ∧ H b = some (.lst na) ∧ DpAll K H oa (olds.map ptD) ∧ DpAll K H na (news.map ptD) ∧ PtsOk 4000 olds ∧ PtsOk bn news ∧ gN n bn ≤ 1900 ∧ olds.length = news.length ∧ olds.length < 2000 ∧ (∀ p ∈ supV x, p ∈ olds) ∧ Tabs T H ∧
  ∀ (y : V) (H' : Hp), Kt M0 H H' → Tabs T H' → Dp K H' y (vlD (movedV x olds news)) → Q y H'
theorem neD {H : Hp} {x y : V} {d e : PyData} {Q : VK} {b : Bool} (hx : L2.Dp K H x d) (hy : L2.Dp K H y e) (sx : SeqAt.shaped d = true) (sy : SeqAt.shaped e = true) (hb : PyData.eqv d e = b) (q : Q (.bl (!b)) H) : rNeD K x y H Q := ⟨d, e, hx, hy, sx, sy, by rw [hb]; exact q⟩
theorem idx_pt {H : Hp} {a : Addr} {oa : List V} {olds : List Pt} {x : Pt} {v : V} {c : Nat} {Q : VK} (sa : SqL K H a oa) (da : DpAll K H oa (olds.map ptD)) (ho : PtsOk c olds) (hx : x ∈ olds) (dv : Dp K H v (ptD x)) (q : Q (.int (olds.idxOf x : Nat)) H) : rIndexD K (.ref a) [v] H Q := by
  obtain ⟨h1, h2, _⟩ := lead_at (news := olds) hx rfl
  refine ⟨a, v, ptD x, olds.map ptD, olds.idxOf x, ptD x, rfl, rfl, .lst sa da.up, dv.up, ptL_shaped _, ptD_shaped _, by rw [List.getElem?_map, h2]; rfl, by rw [ptD_eqv]; simp, fun m z hm hz => ?_, q⟩
  rw [List.getElem?_map] at hz
  cases e : olds[m]? with
  | none => rw [e] at hz; cases hz
  | some y =>
    rw [e] at hz; cases hz
    rw [ptD_eqv]
    exact decide_eq_false (lt_ne (asc_get ho.asc hm e h2))
theorem lead_v {H : Hp} {b : Addr} {na : List V} {olds news : List Pt} {x : Pt} (db : DpAll K H na (news.map ptD)) (hx : x ∈ olds) (hl : olds.length = news.length) : ∃ u, atI na ((olds.idxOf x : Nat) : Int) = some u ∧ Dp K H u (ptD (leadP olds news x)) := by
  obtain ⟨_, _, h3⟩ := lead_at hx hl
  obtain ⟨u, hu, du⟩ := dps_get' db (i := olds.idxOf x) (d := ptD (leadP olds news x)) (by rw [List.getElem?_map, h3]; rfl)
  exact ⟨u, atI_nat hu, du⟩
theorem filter_rest (ps l : List Pt) : ((l.map ptD).filter fun d => match d with | .tuple [.int p, .int q] => decide ((p, q) ∉ ps) | _ => false) = (restP ps l).map ptD := by
  rw [List.filter_map]; rfl
theorem movedMs_snoc (l : List Vl) (m : Vl) (ps qs : List Pt) : movedMs (l ++ [m]) ps qs = movedMs l ps qs ++ [movedV m (endsP ps qs (restP ps (supV m))).1 (endsP ps qs (restP ps (supV m))).2] := by
  rw [movedMs_map, movedMs_map, List.map_append]; rfl
def MovI (K : PySem.W.Frag) (T : List (Addr × Str)) (v : V) (a b pp p : Addr) (pw : List V) (ps qs : List Pt) (ms : List Vl) (H : Hp) (i : Nat) (σ : L2.St) (H' : Hp) : Prop :=
  ∃ (us : List V) (v7 v8 v9 : Option V), σ = [some v, some (.ref a), some (.ref b), none, none, some (.ref pp), some (.ref p), v7, v8, v9] ∧ Kt M0 H H' ∧ Tabs T H' ∧ H p = none ∧ H' p = some (.lst us) ∧ H' pp = some (.lst pw) ∧ DpAll K H' pw (qs.map ptD) ∧ DpAll K H' us ((movedMs (ms.take i) ps qs).map vlD)
theorem st__law_moved (W : Ds K mg) (B : Tbs W base) (n : Nat) (ih : FnG P w K mg base (n + 4) W.f__law_moved W.fd__law_moved P__law_moved (prevS (sp_moved K B.T) n)) : FnG P w K mg base (n + 4 + 1) W.f__law_moved W.fd__law_moved P__law_moved (sp_moved K B.T n) := by
  refine fnG_okC W.D__law_moved.F B.moved.code sc__law_moved (fun vs H Q E h => ?len) (fun A outer s H vs Q E nr hr h => ?body)
  case len =>
    obtain ⟨v, a, b, x, oa, na, olds, news, bo, bn, rfl, _⟩ := h
    rfl
  case body =>
    obtain ⟨v, a, b, x, oa, na, olds, news, bo, bn, rfl, dx, ox, hbo, hw, sa, sb, da, db, oo, on, hbn, hl, hlo, hs, tb, k⟩ := h
    have nd := sc__law_moved.nd
    have hu := hu_of hr
    have hu64 := hr.units
    have hu65 := hu65_of hr
    refine ⟨_, (pss_cons (ps_if (pt_val (pe_callB (c_isi K) (by rfl) W.T.b_isinstance (by decide +kernel) (pa_cons (pv 0) (pa_cons (pe_bltn (v := .ty "str") (u := .type "str") (by rfl) W.T.b_str (by decide +kernel) (by rfl)) pa_nil))))
     (pss_one (ps_ret (pv 0)))
     pss_nil)
  (pss_cons (ps_if (pt_cmpR (k_eqD K hu64) (pe_ix (k_ixT K) (pv 0) pe_int (fun _ _ => rfl)) pe_str (nomark _))
     (pss_one (ps_ret (pe_op (k_catT K) (pe_tup (pa_cons pe_str pa_nil)) (pe_callTy (c_tuple K) (by rfl) W.T.b_tuple (by decide +kernel) (pa_cons (pe_lc (own := [("part", 3)]) rfl nd (i_tup K (pe_slice (k_slT K) (pv 0) (po_some pe_int) po_none)) (blkOk_by (N := N__law_moved) (sc := defScope s__law_moved) (by decide +kernel)) (fun _ _ _ _ _ => (pg_name (i := 3) nd rfl (by first | exact Or.inl rfl | exact Or.inr rfl))) (fun _ _ _ _ _ => pts_nil) (fun _ _ _ _ _ => (peG_call ih nr (hr.mono (by first | decide | omega)) rfl W.D__law_moved.g W.D__law_moved.F.kp W.D__law_moved.b (pa_cons (pv 3) (pa_cons (pv 1) (pa_cons (pv 2) pa_nil)))))) pa_nil)))))
     pss_nil)
  (pss_cons (ps_if (pt_cmpR (k_neD K hu64) (pe_ix (k_ixT K) (pv 0) pe_int (fun _ _ => rfl)) pe_str (nomark _))
     (pss_one (ps_ret (pe_ix (k_ixL K) (pv 2) (e_bm K (pe_bm PySem.F.plainAttrs_list PySem.F.slot_list_index PySem.F.type_list_index (k_indexD K hu65) (pv 1) (pa_cons (pv 0) pa_nil))) (fun _ _ => rfl))))
     pss_nil)
  (pss_cons (ps_par (i := 5) (j := 6) rfl nd rfl rfl (by decide) rfl rfl (pa_cons (pe_lc (own := [("one", 4)]) rfl nd (i_tup K (pe_ix (k_ixT K) (pv 0) pe_int (fun _ _ => rfl))) (blkOk_by (N := N__law_moved) (sc := defScope s__law_moved) (by decide +kernel)) (fun _ _ _ _ _ => (pg_name (i := 4) nd rfl (by first | exact Or.inl rfl | exact Or.inr rfl))) (fun _ _ _ _ _ => pts_nil) (fun _ _ _ _ _ => (pe_ix (k_ixL K) (pv 2) (e_bm K (pe_bm PySem.F.plainAttrs_list PySem.F.slot_list_index PySem.F.type_list_index (k_indexD K hu65) (pv 1) (pa_cons (pv 4) pa_nil))) (fun _ _ => rfl)))) (pa_cons (pe_lst pa_nil) pa_nil)) (by rfl))
  (pss_cons (ps_for PassesOwn.never rfl (i_tup K (pe_ix (k_ixT K) (pv 0) pe_int (fun _ _ => rfl))) (pg_name (i := 7) nd rfl (by first | exact Or.inl rfl | exact Or.inr rfl))
     (pss_cons (ps_setLc (i := 8) (own := [("one", 4)]) rfl nd rfl rfl (sw_true rfl rfl rfl (by decide +kernel)) (i_list K (pe_call (ok__law_support W n) (hr.mono (by first | decide | omega)) rfl W.D__law_support.g W.D__law_support.F.kp W.D__law_support.b .nil pass0 (pa_cons (pv 7) pa_nil))) (blkOk_by (N := N__law_moved) (sc := defScope s__law_moved) (by decide +kernel)) (fun _ _ _ _ _ => (pg_name (i := 4) nd rfl (by first | exact Or.inl rfl | exact Or.inr rfl))) (fun _ _ _ _ _ => (pts_one (pt_cmpR (k_notInDT K hu65) (pv 4) (pe_ix (k_ixT K) (pv 0) pe_int (fun _ _ => rfl)) (by with_unfolding_all rfl)))) (fun _ _ _ _ _ => (pv 4)))
      (pss_cons (ps_set (i := 9) nd rfl (by first | exact Or.inl rfl | exact Or.inr rfl) (pe_call (ok__law_ends W) (hr.mono (by first | decide | omega)) rfl W.D__law_ends.g W.D__law_ends.F.kp W.D__law_ends.b .nil pass0 (pa_cons (pe_callTy (c_list K) (by rfl) W.T.b_list (by decide +kernel) (pa_cons (pe_ix (k_ixT K) (pv 0) pe_int (fun _ _ => rfl)) pa_nil)) (pa_cons (pv 5) (pa_cons (pv 8) pa_nil)))))
      (pss_one (ps_expr (e_bm K (pe_bm PySem.F.plainAttrs_list PySem.F.slot_list_append PySem.F.type_list_append mt_append (pv 6) (pa_cons (peG_call ih nr (hr.mono (by first | decide | omega)) rfl W.D__law_moved.g W.D__law_moved.F.kp W.D__law_moved.b (pa_cons (pv 7) (pa_cons (pe_ix (k_ixT K) (pv 9) pe_int (fun _ _ => rfl)) (pa_cons (pe_ix (k_ixT K) (pv 9) pe_int (fun _ _ => rfl)) pa_nil)))) pa_nil))))))))
  (pss_one (ps_ret (pe_tup (pa_cons pe_str (pa_cons (pe_callTy (c_tuple K) (by rfl) W.T.b_tuple (by decide +kernel) (pa_cons (pv 5) pa_nil)) (pa_cons (pe_callTy (c_tuple K) (by rfl) W.T.b_tuple (by decide +kernel) (pa_cons (pe_sortedLam (T := B.T) (x := "one") (k := n + 2) (by rfl) W.T.b_sorted (pv 6) B.moved.tb rfl B.moved.mem B.moved.uni (hr.mono (by first | decide | omega)) (nscope_by (by decide +kernel)) (by rfl) (by rfl) (fun _ _ _ _ => by rfl) nr (fun _ _ _ _ hr nr => (pe_callTy SkE.call_str_str (by rfl) W.T.b_str (by decide +kernel) (pa_cons (peG_call (ok__law_text W n) nr (hr.mono (by first | decide | omega)) rfl W.D__law_text.g W.D__law_text.F.kp W.D__law_text.b (pa_cons (pv 0) pa_nil)) pa_nil)))) pa_nil)) pa_nil))))))))))), ?_⟩
    simp only [tSeq, tIfS, tNext, tRet, tRetN, tAsg, tDrop, tPar, tCons, tNil, tCB, tVar, tC, tOp, rI, rI0, rU, tTest, tB, tTup, tLst, gName, tIf, tAnd, tOr, tNot, tAndV, tOrV, tNotV, tUn, tCall, tChain, tSl, tNoPart, tPart, tBM, tBM0, tDGet, sDPut, tAugS, ipI, tAug, rIxT, rIxL, rMulK, rLenK, rLstK, tTruK, gTup, gCons, gNil, rEq, rNe, scal, tNever, rMulK, rGcd, L2.start, List.map, List.length, List.replicate, List.cons_append, List.nil_append, List.append_nil, List.set, List.set_cons_zero, List.set_cons_succ, List.getElem?_cons_succ, List.getElem?_cons_zero, Option.some.injEq, List.cons.injEq, V.int.injEq, V.str.injEq, V.bl.injEq, V.ref.injEq, and_true, true_and, exists_eq_left, exists_eq_left', exists_eq_right, exists_eq_right', exists_eq, exists_and_left, exists_and_right, and_assoc, exists_false, false_and, and_false, or_false, false_or, reduceCtorEq, Nat.reduceAdd, Nat.reduceSub, List.append_assoc, eq_self, if_true, if_false, Bool.false_eq_true, decide_eq_true_eq, List.length_cons, List.length_nil]
    cases x with
    | word s =>
      obtain rfl := dv_word dx
      refine isi_str ⟨_, rfl, ?_⟩
      rw [if_pos rfl]
      exact k _ H (Kt.refl H) tb (by rw [movedV]; exact dx)
    | pt x =>
      obtain ⟨t, rfl, ha⟩ := dv_pt dx
      refine isi_no ha ⟨_, rfl, ?_⟩
      rw [if_neg (by simp)]
      refine ⟨t, rfl, _, ha, _, atI_nat (j := 0) rfl, no_int row_ok ⟨_, rfl, ?_⟩⟩
      rw [if_neg (by simp)]
      refine ⟨t, rfl, _, ha, _, atI_nat (j := 0) rfl, neD (.int _) (.str _) (i_shaped _) (str_shaped set_ok) (int_str _ _) ⟨_, rfl, ?_⟩⟩
      rw [if_pos (show (!false) = true from rfl)]
      have mx := hs x (by simp [supV])
      obtain ⟨u, hu, du⟩ := lead_v (b := b) db mx hl
      refine ⟨Or.inl ⟨rfl, oa, sqL_mk sa⟩, idx_pt (sqL_mk sa) da oo mx (by rw [vlD] at dx; exact dx) ⟨na, _, rfl, sqL_mk sb, u, hu, ?_⟩⟩
      exact k u H (Kt.refl H) tb (by rw [movedV, vlD]; exact du)
    | row l =>
      obtain ⟨t, ws, rfl, ha, dl⟩ := dv_row dx
      refine isi_no ha ⟨_, rfl, ?_⟩
      rw [if_neg (by simp)]
      refine ⟨t, rfl, _, ha, _, atI_nat (j := 0) rfl, is_row ⟨_, rfl, ?_⟩⟩
      rw [if_pos rfl]
      cases ox with
      | @row n _ _ h0 ol =>
        rw [vw] at hw
        refine ⟨by decide, fun p hp => tlcT ?_⟩
        simp only [tSeq, tIfS, tNext, tRet, tRetN, tAsg, tDrop, tPar, tCons, tNil, tCB, tVar, tC, tOp, rI, rI0, rU, tTest, tB, tTup, tLst, gName, tIf, tAnd, tOr, tNot, tAndV, tOrV, tNotV, tUn, tCall, tChain, tSl, tNoPart, tPart, tBM, tBM0, tDGet, sDPut, tAugS, ipI, tAug, rIxT, rIxL, rMulK, rLenK, rLstK, tTruK, gTup, gCons, gNil, rEq, rNe, scal, tNever, rMulK, rGcd, L2.start, List.map, List.length, List.replicate, List.cons_append, List.nil_append, List.append_nil, List.set, List.set_cons_zero, List.set_cons_succ, List.getElem?_cons_succ, List.getElem?_cons_zero, Option.some.injEq, List.cons.injEq, V.int.injEq, V.str.injEq, V.bl.injEq, V.ref.injEq, and_true, true_and, exists_eq_left, exists_eq_left', exists_eq_right, exists_eq_right', exists_eq, exists_and_left, exists_and_right, and_assoc, exists_false, false_and, and_false, or_false, false_or, reduceCtorEq, Nat.reduceAdd, Nat.reduceSub, List.append_assoc, eq_self, if_true, if_false, Bool.false_eq_true, decide_eq_true_eq, List.length_cons, List.length_nil]
        have kp := Kp.new (M := M0) (o := .tup [.str "row"]) hp
        refine slRest (sqT_tk (Tk.of0 kp) ha) fun t2 ht2 => ?_
        have kp2 := kp.trans (Kp.new (M := M0) (o := .tup ws) ht2)
        refine lcTe (krT B.T) (l.map vlD) ((movedVs l olds news).map vlD) (tabs_new (tabs_new tb hp) ht2) (by simp [movedVs_map]; rw [sizeLine_eq]; have := vws_len l; omega) (by simp [movedVs_map]) (sqT_mk upd_same) (dvs_tk dl (Tk.of0 kp2)) (vls_tup _) (vls_tup _) (fun i d e y H2 e1 e2 dy k2 t2' Q' q => ?_) (fun D H2 vs hD k2 t2' hd2 ha2 => ?_)
        · rw [List.getElem?_map] at e1
          cases e3 : l[i]? with
          | none => rw [e3] at e1; cases e1
          | some z =>
            rw [e3] at e1; cases e1
            rw [List.getElem?_map, movedVs_map, List.getElem?_map, e3] at e2; cases e2
            have mz := List.mem_of_getElem? e3
            have wz := vw_mem mz
            simp only [tSeq, tIfS, tNext, tRet, tRetN, tAsg, tDrop, tPar, tCons, tNil, tCB, tVar, tC, tOp, rI, rI0, rU, tTest, tB, tTup, tLst, gName, tIf, tAnd, tOr, tNot, tAndV, tOrV, tNotV, tUn, tCall, tChain, tSl, tNoPart, tPart, tBM, tBM0, tDGet, sDPut, tAugS, ipI, tAug, rIxT, rIxL, rMulK, rLenK, rLstK, tTruK, gTup, gCons, gNil, rEq, rNe, scal, tNever, rMulK, rGcd, L2.start, List.map, List.length, List.replicate, List.cons_append, List.nil_append, List.append_nil, List.set, List.set_cons_zero, List.set_cons_succ, List.getElem?_cons_succ, List.getElem?_cons_zero, Option.some.injEq, List.cons.injEq, V.int.injEq, V.str.injEq, V.bl.injEq, V.ref.injEq, and_true, true_and, exists_eq_left, exists_eq_left', exists_eq_right, exists_eq_right', exists_eq, exists_and_left, exists_and_right, and_assoc, exists_false, false_and, and_false, or_false, false_or, reduceCtorEq, Nat.reduceAdd, Nat.reduceSub, List.append_assoc, eq_self, if_true, if_false, Bool.false_eq_true, decide_eq_true_eq, List.length_cons, List.length_nil]
            have k02 : Kt M0 H H2 := (Kt.of kp2).trans k2
            exact ⟨y, a, b, z, oa, na, olds, news, bo, bn, rfl, dy, ol z mz, Nat.le_trans (gN_succ n bo) hbo, by omega, k02.lst sa fun z => z, k02.lst sb fun z => z, pts_tk da k02.tk0, pts_tk db k02.tk0, oo, on, Nat.le_trans (gN_succ n bn) hbn, hl, hlo, fun q hq => hs q (by rw [supV]; exact (asc_mem (sups_ok ol) q).mpr (supVs_mem.mpr ⟨z, mz, hq⟩)), t2', fun y2 H4 k4 t4 d4 => q _ _ k4 t4 d4⟩
        · refine ⟨D, vs, rfl, Or.inl ⟨sqL_mk hd2, fun t3 ht3 => ?_⟩⟩
          have hp3 : upd H2 t3 (.tup vs) p = some (.tup [.str "row"]) := by
            have e1 : upd (upd H p (.tup [.str "row"])) t2 (.tup ws) p = some (.tup [.str "row"]) := by rw [upd_ne (ne_of_none upd_same ht2)]; exact upd_same
            have e2 := k2 _ _ e1 (fun _ z => by cases z) fun z => z
            rw [upd_ne (ne_of_none e2 ht3)]; exact e2
          have vl : vs.length = l.length := by rw [dps_len ha2]; simp [movedVs_map]
          have k0 : Kt M0 H (upd H2 t3 (.tup vs)) := ((Kt.of kp2).trans k2).trans (Kt.new ht3)
          have d3 := dvs_tk ha2 (Tk.new (o := .tup vs) ht3)
          have wl := vws_len l
          refine ⟨p, t3, [.str "row"], vs, rfl, rfl, sqT_mk hp3, sqT_mk upd_same, by rw [sizeLine_eq]; simp; omega, fun z => by simp at z, fun _ hv => ?_, fun _ _ t4 ht4 => ?_⟩
          · subst hv
            refine k _ _ k0 (tabs_new t2' ht3) ?_
            rw [movedV]
            exact dv_mkrow (ws := []) (tpl hp3) d3
          · refine k _ _ (k0.trans (Kt.new ht4)) (tabs_new (tabs_new t2' ht3) ht4) ?_
            rw [movedV]
            exact dv_mkrow (ws := vs) (tpl upd_same) (dvs_tk d3 (Tk.new ht4))
    | set ps ms =>
      obtain ⟨t, sp, sm, pw, mw, rfl, ha, hp, dp, hm, dm⟩ := dv_set dx
      refine isi_no ha ⟨_, rfl, ?_⟩
      rw [if_neg (by simp)]
      refine ⟨t, rfl, _, ha, _, atI_nat (j := 0) rfl, no_row ⟨_, rfl, ?_⟩⟩
      rw [if_neg (by simp)]
      refine ⟨t, rfl, _, ha, _, atI_nat (j := 0) rfl, neD (.str _) (.str _) (str_shaped set_ok) (str_shaped set_ok) set_set ⟨_, rfl, ?_⟩⟩
      rw [if_neg (by simp)]
      have ox' := ox
      cases ox with
      | @set n bo _ _ okp okm =>
        rw [vw] at hw
        rw [supV] at hs
        refine tlcT ?_
        simp only [tSeq, tIfS, tNext, tRet, tRetN, tAsg, tDrop, tPar, tCons, tNil, tCB, tVar, tC, tOp, rI, rI0, rU, tTest, tB, tTup, tLst, gName, tIf, tAnd, tOr, tNot, tAndV, tOrV, tNotV, tUn, tCall, tChain, tSl, tNoPart, tPart, tBM, tBM0, tDGet, sDPut, tAugS, ipI, tAug, rIxT, rIxL, rMulK, rLenK, rLstK, tTruK, gTup, gCons, gNil, rEq, rNe, scal, tNever, rMulK, rGcd, L2.start, List.map, List.length, List.replicate, List.cons_append, List.nil_append, List.append_nil, List.set, List.set_cons_zero, List.set_cons_succ, List.getElem?_cons_succ, List.getElem?_cons_zero, Option.some.injEq, List.cons.injEq, V.int.injEq, V.str.injEq, V.bl.injEq, V.ref.injEq, and_true, true_and, exists_eq_left, exists_eq_left', exists_eq_right, exists_eq_right', exists_eq, exists_and_left, exists_and_right, and_assoc, exists_false, false_and, and_false, or_false, false_or, reduceCtorEq, Nat.reduceAdd, Nat.reduceSub, List.append_assoc, eq_self, if_true, if_false, Bool.false_eq_true, decide_eq_true_eq, List.length_cons, List.length_nil]
        refine ⟨_, ha, _, atI_nat (j := 1) rfl, ?_⟩
        refine lcTe kr0 (ps.map ptD) ((ps.map (leadP olds news)).map ptD) trivial (by simp; rw [sizeLine_eq]; omega) (by simp) hp dp (ptDs_tup _) (ptDs_tup _) (fun i d e y H2 e1 e2 dy k2 _ Q' q => ?_) (fun pp H1 pw' hpp k1 _ hpp1 dpp => ?_)
        · rw [List.getElem?_map] at e1
          cases e3 : ps[i]? with
          | none => rw [e3] at e1; cases e1
          | some z =>
            rw [e3] at e1; cases e1
            rw [List.getElem?_map, List.getElem?_map, e3] at e2; cases e2
            have mz := hs z (List.mem_of_getElem? e3)
            simp only [tSeq, tIfS, tNext, tRet, tRetN, tAsg, tDrop, tPar, tCons, tNil, tCB, tVar, tC, tOp, rI, rI0, rU, tTest, tB, tTup, tLst, gName, tIf, tAnd, tOr, tNot, tAndV, tOrV, tNotV, tUn, tCall, tChain, tSl, tNoPart, tPart, tBM, tBM0, tDGet, sDPut, tAugS, ipI, tAug, rIxT, rIxL, rMulK, rLenK, rLstK, tTruK, gTup, gCons, gNil, rEq, rNe, scal, tNever, rMulK, rGcd, L2.start, List.map, List.length, List.replicate, List.cons_append, List.nil_append, List.append_nil, List.set, List.set_cons_zero, List.set_cons_succ, List.getElem?_cons_succ, List.getElem?_cons_zero, Option.some.injEq, List.cons.injEq, V.int.injEq, V.str.injEq, V.bl.injEq, V.ref.injEq, and_true, true_and, exists_eq_left, exists_eq_left', exists_eq_right, exists_eq_right', exists_eq, exists_and_left, exists_and_right, and_assoc, exists_false, false_and, and_false, or_false, false_or, reduceCtorEq, Nat.reduceAdd, Nat.reduceSub, List.append_assoc, eq_self, if_true, if_false, Bool.false_eq_true, decide_eq_true_eq, List.length_cons, List.length_nil]
            obtain ⟨u, hu, du⟩ := lead_v (b := b) (pts_tk db (Tk.of0 k2)) mz hl
            exact ⟨Or.inl ⟨rfl, oa, sqL_mk (k2 _ _ sa fun z => z)⟩, idx_pt (sqL_mk (k2 _ _ sa fun z => z)) (pts_tk da (Tk.of0 k2)) oo mz dy ⟨na, _, rfl, sqL_mk (k2 _ _ sb fun z => z), u, hu, q _ _ (Kp.refl _) trivial du⟩⟩
        · refine ⟨by decide, fun p hp0 => tforT ?_⟩
          simp only [tSeq, tIfS, tNext, tRet, tRetN, tAsg, tDrop, tPar, tCons, tNil, tCB, tVar, tC, tOp, rI, rI0, rU, tTest, tB, tTup, tLst, gName, tIf, tAnd, tOr, tNot, tAndV, tOrV, tNotV, tUn, tCall, tChain, tSl, tNoPart, tPart, tBM, tBM0, tDGet, sDPut, tAugS, ipI, tAug, rIxT, rIxL, rMulK, rLenK, rLstK, tTruK, gTup, gCons, gNil, rEq, rNe, scal, tNever, rMulK, rGcd, L2.start, List.map, List.length, List.replicate, List.cons_append, List.nil_append, List.append_nil, List.set, List.set_cons_zero, List.set_cons_succ, List.getElem?_cons_succ, List.getElem?_cons_zero, Option.some.injEq, List.cons.injEq, V.int.injEq, V.str.injEq, V.bl.injEq, V.ref.injEq, and_true, true_and, exists_eq_left, exists_eq_left', exists_eq_right, exists_eq_right', exists_eq, exists_and_left, exists_and_right, and_assoc, exists_false, false_and, and_false, or_false, false_or, reduceCtorEq, Nat.reduceAdd, Nat.reduceSub, List.append_assoc, eq_self, if_true, if_false, Bool.false_eq_true, decide_eq_true_eq, List.length_cons, List.length_nil]
          have hq := lead_ok oo on hl okp.asc hs
          have kl : Kp M0 H (upd H1 p (.lst [])) := k1.trans (Kp.new hp0)
          have hpH : H p = none := none0 k1 hp0
          refine ⟨_, sqT_tk (Tk.of0 kl) ha, _, atI_nat (j := 2) rfl, sm, rfl, ⟨mw, sqT_tk (Tk.of0 kl) hm⟩, ?_⟩
          have ml : mw.length = ms.length := by rw [dps_len dm, List.length_map]
          have pwl : pw'.length = ps.length := by rw [dps_len dpp]; simp
          refine for_tup (K := K) (a := sm) (xs := mw) (MovI K B.T (.ref t) a b pp p pw' ps (ps.map (leadP olds news)) ms H) ?_ ?_ ?_ ?_
          · exact ⟨[], none, none, none, rfl, Kt.of kl, tabs_kp tb kl, hpH, upd_same, by rw [upd_ne (ne_of_none hpp1 hp0)]; exact hpp1, pts_tk dpp (Tk.new hp0), by rw [List.take_zero, movedMs]; exact .nil⟩
          · rintro i σ H' _ ⟨us, v7, v8, v9, rfl, k2, _⟩
            exact sqT_tk k2.tk0 hm
          · rintro i y σ H' hi ⟨us, v7, v8, v9, rfl, k2, t2, hpn, hp2, hpp2, dpp2, hus⟩
            simp only [tSeq, tIfS, tNext, tRet, tRetN, tAsg, tDrop, tPar, tCons, tNil, tCB, tVar, tC, tOp, rI, rI0, rU, tTest, tB, tTup, tLst, gName, tIf, tAnd, tOr, tNot, tAndV, tOrV, tNotV, tUn, tCall, tChain, tSl, tNoPart, tPart, tBM, tBM0, tDGet, sDPut, tAugS, ipI, tAug, rIxT, rIxL, rMulK, rLenK, rLstK, tTruK, gTup, gCons, gNil, rEq, rNe, scal, tNever, rMulK, rGcd, L2.start, List.map, List.length, List.replicate, List.cons_append, List.nil_append, List.append_nil, List.set, List.set_cons_zero, List.set_cons_succ, List.getElem?_cons_succ, List.getElem?_cons_zero, Option.some.injEq, List.cons.injEq, V.int.injEq, V.str.injEq, V.bl.injEq, V.ref.injEq, and_true, true_and, exists_eq_left, exists_eq_left', exists_eq_right, exists_eq_right', exists_eq, exists_and_left, exists_and_right, and_assoc, exists_false, false_and, and_false, or_false, false_or, reduceCtorEq, Nat.reduceAdd, Nat.reduceSub, List.append_assoc, eq_self, if_true, if_false, Bool.false_eq_true, decide_eq_true_eq, List.length_cons, List.length_nil]
            obtain ⟨d, e1, dy⟩ := dps_get (dvs_tk dm k2.tk0) hi
            rw [List.getElem?_map] at e1
            cases e2 : ms[i]? with
            | none => rw [e2] at e1; cases e1
            | some m =>
              rw [e2] at e1
              cases e1
              have mm := List.mem_of_getElem? e2
              have om := okm m mm
              have wm := vw_mem mm
              have gb : gB bo ≤ 1900 := Nat.le_trans (gN_ge n (gB bo)) hbo
              refine tlcL ?_
              simp only [tSeq, tIfS, tNext, tRet, tRetN, tAsg, tDrop, tPar, tCons, tNil, tCB, tVar, tC, tOp, rI, rI0, rU, tTest, tB, tTup, tLst, gName, tIf, tAnd, tOr, tNot, tAndV, tOrV, tNotV, tUn, tCall, tChain, tSl, tNoPart, tPart, tBM, tBM0, tDGet, sDPut, tAugS, ipI, tAug, rIxT, rIxL, rMulK, rLenK, rLstK, tTruK, gTup, gCons, gNil, rEq, rNe, scal, tNever, rMulK, rGcd, L2.start, List.map, List.length, List.replicate, List.cons_append, List.nil_append, List.append_nil, List.set, List.set_cons_zero, List.set_cons_succ, List.getElem?_cons_succ, List.getElem?_cons_zero, Option.some.injEq, List.cons.injEq, V.int.injEq, V.str.injEq, V.bl.injEq, V.ref.injEq, and_true, true_and, exists_eq_left, exists_eq_left', exists_eq_right, exists_eq_right', exists_eq, exists_and_left, exists_and_right, and_assoc, exists_false, false_and, and_false, or_false, false_or, reduceCtorEq, Nat.reduceAdd, Nat.reduceSub, List.append_assoc, eq_self, if_true, if_false, Bool.false_eq_true, decide_eq_true_eq, List.length_cons, List.length_nil]
              refine ⟨y, m, gB bo, rfl, dy, om.mono (Nat.le_succ n) (Nat.le_refl _), by omega, by omega, fun D H3 us3 hD k3 hd3 ha3 => ?_⟩
              have sl := sup_len om
              have k23 : Kt M0 H H3 := k2.trans (Kt.of k3)
              have ha3' := sqT_tk k23.tk0 ha
              have hp3' := sqT_tk k23.tk0 hp
              have dp3 := pts_tk dp k23.tk0
              refine lcL ((supV m).map ptD) (fun d => match d with | .tuple [.int p, .int q] => decide ((p, q) ∉ ps) | _ => false) id (by rw [List.length_map, sizeLine_eq]; omega) (sqL_mk hd3) ha3 (ptDs_tup _) (fun d h _ => tupDs_all.mp (ptDs_tup _) d h) (fun j d z H4 e dz k4 Q' q => ?_) (fun j d z H4 e _ dz k4 Q' q => ⟨z, rfl, q _ _ (Kp.refl _) dz⟩) fun D2 H4 vs hD2 k4 hd4 ha4 => ?_
              · obtain ⟨x, hx, rfl⟩ := List.mem_map.mp (List.mem_of_getElem? e)
                simp only [tSeq, tIfS, tNext, tRet, tRetN, tAsg, tDrop, tPar, tCons, tNil, tCB, tVar, tC, tOp, rI, rI0, rU, tTest, tB, tTup, tLst, gName, tIf, tAnd, tOr, tNot, tAndV, tOrV, tNotV, tUn, tCall, tChain, tSl, tNoPart, tPart, tBM, tBM0, tDGet, sDPut, tAugS, ipI, tAug, rIxT, rIxL, rMulK, rLenK, rLstK, tTruK, gTup, gCons, gNil, rEq, rNe, scal, tNever, rMulK, rGcd, L2.start, List.map, List.length, List.replicate, List.cons_append, List.nil_append, List.append_nil, List.set, List.set_cons_zero, List.set_cons_succ, List.getElem?_cons_succ, List.getElem?_cons_zero, Option.some.injEq, List.cons.injEq, V.int.injEq, V.str.injEq, V.bl.injEq, V.ref.injEq, and_true, true_and, exists_eq_left, exists_eq_left', exists_eq_right, exists_eq_right', exists_eq, exists_and_left, exists_and_right, and_assoc, exists_false, false_and, and_false, or_false, false_or, reduceCtorEq, Nat.reduceAdd, Nat.reduceSub, List.append_assoc, eq_self, if_true, if_false, Bool.false_eq_true, decide_eq_true_eq, List.length_cons, List.length_nil]
                refine ⟨_, sqT_tk (Tk.of0 k4) ha3', _, atI_nat (j := 1) rfl, ptD x, ps.map ptD, dz.up, .tup (sqT_tk (Tk.of0 k4) hp3') (pts_tk dp3 (Tk.of0 k4)).up, ptD_shaped _, ptT_shaped _, _, rfl, ?_⟩
                have e3 : (if true = true then !(ps.map ptD).any fun z => PyData.eqv z (ptD x) else (ps.map ptD).any fun z => PyData.eqv z (ptD x)) = decide (x ∉ ps) := by
                  rw [if_pos rfl, any_pt]; simp
                rw [e3]
                exact q _ (Kp.refl _)
              · rw [filter_rest, List.map_id] at ha4
                have vsl : vs.length = (restP ps (supV m)).length := by rw [dps_len ha4, List.length_map]
                have rl : (restP ps (supV m)).length ≤ (supV m).length := List.length_filter_le _ _
                have k24 : Kt M0 H H4 := k23.trans (Kt.of k4)
                have tb4 := tabs_kp (tabs_kp t2 k3) k4
                refine ⟨_, sqT_tk k24.tk0 ha, _, atI_nat (j := 1) rfl, sp, rfl, pw, Or.inr (sqT_tk k24.tk0 hp), fun l1 hl1 => ?_⟩
                have hpp4 := (k3.trans k4) _ _ hpp2 fun z => z
                have hp4 := (k3.trans k4) _ _ hp2 fun z => z
                have eo := rest_ends okp hq (by simp) om (by omega)
                have so := sup_ok om
                refine ⟨l1, pp, D2, pw, pw', vs, ps, ps.map (leadP olds news), restP ps (supV m), rfl, upd_same, by rw [upd_ne (ne_of_none hpp4 hl1)]; exact hpp4, by rw [upd_ne (ne_of_none hd4 hl1)]; exact hd4, pts_tk dp (k24.trans (Kt.new hl1)).tk0, pts_tk dpp2 (Tk.of0 ((k3.trans k4).trans (Kp.new hl1))), pts_tk ha4 (Tk.new hl1), ⟨gB bo, by omega, okp.mono (by unfold gB; omega), fun x hx => ?_⟩, ⟨bn, hq, ?_, ?_⟩, by simp, ?_, by omega, fun te d1 d2 H5 ds es k5 ht5 hd5 he5 dd5 de5 => ?_⟩
                · have := (List.mem_filter.mp hx).1
                  exact ⟨so.ok x this, so.sz x this⟩
                · have := Nat.le_trans (gN_ge n (gB bn)) hbn; omega
                · have := Nat.le_trans (gN_ge n (gB bn)) hbn; unfold gB at this; omega
                · omega
                · have k45 : Kp M0 H4 H5 := (Kp.new hl1).trans k5
                  have hp5 := k45 _ _ hp4 fun z => z
                  have k05 : Kt M0 H H5 := k24.trans (Kt.of k45)
                  have tb5 := tabs_kp tb4 k45
                  have k25 : Kp M0 H' H5 := (k3.trans k4).trans k45
                  refine ⟨Or.inl ⟨rfl, us, sqL_mk hp5⟩, te, rfl, _, ht5, _, atI_nat (j := 0) rfl, te, rfl, _, ht5, _, atI_nat (j := 1) rfl, ?_⟩
                  refine ⟨y, d1, d2, m, ds, es, _, _, gB bo, gB bn, rfl, dv_tk dy (Tk.of0 k25), om, hbo, by omega, hd5, he5, dd5, de5, eo.o1.mono (by omega), eo.o2, hbn, eo.len, by rw [eo.lenV]; omega, fun x hx => (eo.m1 x).mpr (rest_in hx), tb5, fun y2 H6 k6 t6 d6 => ?_⟩
                  have hp6 := k6.lst hp5 fun z => z
                  have npp : pp ≠ p := ne_of_none hpp1 hp0
                  have usl : us.length = (ms.take i).length := by rw [dps_len hus]; simp [movedMs_map]
                  rw [List.length_take] at usl
                  have msl := vws_len ms
                  refine ⟨p, us, y2, rfl, rfl, hp6, by rw [sizeLine_eq]; omega, us ++ [y2], _, _, _, rfl, (k05.trans k6).at hpn, tabs_lst t6 hp6, hpn, upd_same, by rw [upd_ne npp]; exact k6.lst (k45 _ _ hpp4 fun z => z) fun z => z, ?_, ?_⟩
                  · exact pts_tk dpp2 (((Tk.of0 k25).trans k6.tk0).trans (Tk.lst hp6))
                  · rw [take_snoc e2, movedMs_snoc, List.map_append]
                    exact dps_app (dvs_tk hus (((Tk.of0 k25).trans k6.tk0).trans (Tk.lst hp6))) (dps_one (dv_tk d6 (Tk.lst hp6)))
          · rintro σ H' ⟨us, v7, v8, v9, rfl, k2, t2, hpn, hp2, hpp2, dpp2, hus⟩
            simp only [tSeq, tIfS, tNext, tRet, tRetN, tAsg, tDrop, tPar, tCons, tNil, tCB, tVar, tC, tOp, rI, rI0, rU, tTest, tB, tTup, tLst, gName, tIf, tAnd, tOr, tNot, tAndV, tOrV, tNotV, tUn, tCall, tChain, tSl, tNoPart, tPart, tBM, tBM0, tDGet, sDPut, tAugS, ipI, tAug, rIxT, rIxL, rMulK, rLenK, rLstK, tTruK, gTup, gCons, gNil, rEq, rNe, scal, tNever, rMulK, rGcd, L2.start, List.map, List.length, List.replicate, List.cons_append, List.nil_append, List.append_nil, List.set, List.set_cons_zero, List.set_cons_succ, List.getElem?_cons_succ, List.getElem?_cons_zero, Option.some.injEq, List.cons.injEq, V.int.injEq, V.str.injEq, V.bl.injEq, V.ref.injEq, and_true, true_and, exists_eq_left, exists_eq_left', exists_eq_right, exists_eq_right', exists_eq, exists_and_left, exists_and_right, and_assoc, exists_false, false_and, and_false, or_false, false_or, reduceCtorEq, Nat.reduceAdd, Nat.reduceSub, List.append_assoc, eq_self, if_true, if_false, Bool.false_eq_true, decide_eq_true_eq, List.length_cons, List.length_nil]
            rw [ml, List.take_length] at hus
            have mo := moved_ok ox' oo on hl (by rw [supV]; exact hs) (by rw [vw]; exact hw)
            rw [movedV] at mo
            obtain ⟨mo1, mo2⟩ := mo
            rw [vw, vw, List.length_map, vws_perm (sortV_perm _)] at mo2
            have okM : ∀ z ∈ movedMs ms ps (ps.map (leadP olds news)), VOk n (gB bn) z := fun z hz => by
              cases mo1 with
              | set _ hz' => exact hz' z ((sortV_perm _).mem_iff.mpr hz)
            refine ⟨pp, pw', rfl, Or.inl ⟨sqL_mk hpp2, fun tp htp => ?_⟩⟩
            have ntp : p ≠ tp := ne_of_none hp2 htp
            refine ⟨_, rfl, p, us, (movedMs ms ps (ps.map (leadP olds news))).map textV, rfl, sqL_mk (by rw [upd_ne ntp]; exact hp2), by rw [dps_len hus]; simp, tabs_new t2 htp, fun H2 eN T2 => ⟨sqL_mk (eN _ _ (by rw [upd_ne ntp]; exact hp2) fun _ z => by cases z), fun i u kx hu hk H3 k3 => ?_, fun out q H3 sb hq k3 hq3 => ?_⟩⟩
            · rw [List.getElem?_map] at hk
              cases e3 : (movedMs ms ps (ps.map (leadP olds news)))[i]? with
              | none => rw [e3] at hk; cases hk
              | some z =>
                rw [e3] at hk; cases hk
                have mz := List.mem_of_getElem? e3
                have wz := vw_mem mz
                have tkk : Tk H' H3 := ((Tk.new htp).trans (Kt.ext (M := M0) eN).tk0).trans (Tk.of0 k3)
                obtain ⟨d, e4, du⟩ := dps_get (dvs_tk hus tkk) hu
                rw [List.getElem?_map, e3] at e4; cases e4
                simp only [tSeq, tIfS, tNext, tRet, tRetN, tAsg, tDrop, tPar, tCons, tNil, tCB, tVar, tC, tOp, rI, rI0, rU, tTest, tB, tTup, tLst, gName, tIf, tAnd, tOr, tNot, tAndV, tOrV, tNotV, tUn, tCall, tChain, tSl, tNoPart, tPart, tBM, tBM0, tDGet, sDPut, tAugS, ipI, tAug, rIxT, rIxL, rMulK, rLenK, rLstK, tTruK, gTup, gCons, gNil, rEq, rNe, scal, tNever, rMulK, rGcd, L2.start, List.map, List.length, List.replicate, List.cons_append, List.nil_append, List.append_nil, List.set, List.set_cons_zero, List.set_cons_succ, List.getElem?_cons_succ, List.getElem?_cons_zero, Option.some.injEq, List.cons.injEq, V.int.injEq, V.str.injEq, V.bl.injEq, V.ref.injEq, and_true, true_and, exists_eq_left, exists_eq_left', exists_eq_right, exists_eq_right', exists_eq, exists_and_left, exists_and_right, and_assoc, exists_false, false_and, and_false, or_false, false_or, reduceCtorEq, Nat.reduceAdd, Nat.reduceSub, List.append_assoc, eq_self, if_true, if_false, Bool.false_eq_true, decide_eq_true_eq, List.length_cons, List.length_nil]
                exact ⟨u, z, gB bn, n, rfl, du, Nat.le_succ n, okM z mz, hbn, by omega, fun H4 k4 => ⟨_, rfl, rfl, k4⟩⟩
            · refine ⟨q, out, rfl, Or.inl ⟨sqL_mk upd_same, fun t5 ht5 => ⟨by decide, fun t6 ht6 => ?_⟩⟩⟩
              have kA : Kt M0 (upd H' tp (.tup pw')) (upd (upd (upd H3 q (.lst out)) t5 (.tup out)) t6 (.tup [.str "set", .ref tp, .ref t5])) :=
                ((((Kt.ext eN).trans (Kt.of k3)).trans (Kt.new hq3)).trans (Kt.new ht5)).trans (Kt.new ht6)
              have kB : Kt M0 H' _ := (Kt.new (o := .tup pw') htp).trans kA
              have dout := sorted_dps (dvs_tk hus (((Tk.new (o := .tup pw') htp).trans (Kt.ext (M := M0) eN).tk0).trans (Tk.of0 k3))) sb
              refine k _ _ (k2.trans kB) (tabs_new (tabs_new (tabs_new (tabs_kp T2 k3) hq3) ht5) ht6) ?_
              rw [movedV]
              refine dv_mkset (tpl upd_same) (tpl (kA _ _ upd_same (fun _ z => by cases z) fun z => z)) (pts_tk dpp2 kB.tk0) (tpl (by rw [upd_ne (ne_of_none upd_same ht6)]; exact upd_same)) (dvs_tk dout (((Tk.new hq3).trans (Tk.new ht5)).trans (Tk.new ht6)))
theorem ok__law_moved (W : Ds K mg) (B : Tbs W base) : ∀ n : Nat, FnG P w K mg base (n + 5) W.f__law_moved W.fd__law_moved P__law_moved (sp_moved K B.T n)
  | 0 => st__law_moved W B 0 fnG_false
  | n + 1 => st__law_moved W B (n + 1) (ok__law_moved W B n)
end
end G
set_option Elab.async false
set_option linter.all false
set_option maxRecDepth 100000
set_option maxHeartbeats 4000000
set_option exponentiation.threshold 10000
namespace G
open PySem L2 LamX NdefX
section
variable {P : Program} {w : World} {K : PySem.W.Frag} {mg : Str → Option Value} {base : Heap}
/-- a test of points, of their data -/
def ptB (f : Pt → Bool) : PyData → Bool := fun d => match d with
  | .tuple [.int p, .int q] => f (p, q)
  | _ => false
theorem filter_ptB (f : Pt → Bool) (l : List Pt) : (l.map ptD).filter (ptB f) = (l.filter f).map ptD := by
  rw [List.filter_map]; rfl
/-! ### _law_placed -/
def sp_placed (K : PySem.W.Frag) (T : List (Addr × Str)) (n : Nat) : Sp := fun vs H Q _ => ∃ (v : V) (a : Addr) (x : Vl) (pa : List V) (points : List Pt) (bo b : Nat), vs = [v, .ref a] ∧ Dp K H v (vlD x) ∧ VOk n bo x ∧ gN n bo ≤ 1900 ∧ vw x < 1000 ∧
  H a = some (.lst pa) ∧ DpAll K H pa (points.map ptD) ∧ PtsOk b points ∧ gN n (gB b) ≤ 1900 ∧ points.length < 1000 ∧ Tabs T H ∧
  ∀ (y : V) (H' : Hp), Kt M0 H H' → Tabs T H' → Dp K H' y (vlD (placedV x points)) → Q y H'
theorem ok__law_placed (W : Ds K mg) (B : Tbs W base) (n : Nat) : FnG P w K mg base (n + 6) W.f__law_placed W.fd__law_placed P__law_placed (sp_placed K B.T n) := by
  refine fnG_ok W.D__law_placed.F sc__law_placed (fun vs H Q E h => ?len) (fun cdv A outer s H vs Q E nr hr h => ?body)
  case len =>
    obtain ⟨v, a, x, pa, points, bo, b, rfl, _⟩ := h
    rfl
  case body =>
    obtain ⟨v, a, x, pa, points, bo, b, rfl, dx, ox, hbo, hw, sa, da, op, hg, hl, tb, k⟩ := h
    have nd := sc__law_placed.nd
    have hu := hu_of hr
    have hu64 := hr.units
    have hu65 := hu65_of hr
    refine ⟨_, (pss_cons (ps_setLc (i := 3) (own := [("one", 2)]) rfl nd rfl rfl (sw_true rfl rfl rfl (by decide +kernel)) (i_list K (pe_call (ok__law_support W n) (hr.mono (by first | decide | omega)) rfl W.D__law_support.g W.D__law_support.F.kp W.D__law_support.b .nil pass0 (pa_cons (pv 0) pa_nil))) (blkOk_by (N := N__law_placed) (sc := defScope s__law_placed) (by decide +kernel)) (fun _ _ _ _ _ => (pg_name (i := 2) nd rfl (by first | exact Or.inl rfl | exact Or.inr rfl))) (fun _ _ _ _ _ => (pts_one (pt_cmpR (k_notInD K hu65) (pv 2) (pv 1) (by with_unfolding_all rfl)))) (fun _ _ _ _ _ => (pv 2)))
  (pss_cons (ps_asg (pe_call (ok__law_ends W) (hr.mono (by first | decide | omega)) rfl W.D__law_ends.g W.D__law_ends.F.kp W.D__law_ends.b .nil pass0 (pa_cons (pe_callTy (c_list K) (by rfl) W.T.b_list (by decide +kernel) (pa_cons (pv 1) pa_nil)) (pa_cons (pe_callTy (c_list K) (by rfl) W.T.b_list (by decide +kernel) (pa_cons (pv 1) pa_nil)) (pa_cons (pv 3) pa_nil)))) (g_tup K (pg_tup (n := 2) rfl (pgs_cons (pg_name (i := 4) nd rfl (by first | exact Or.inl rfl | exact Or.inr rfl)) (pgs_cons (pg_name (i := 5) nd rfl (by first | exact Or.inl rfl | exact Or.inr rfl)) pgs_nil)))))
  (pss_one (ps_ret (peG_call (ok__law_moved W B n) nr (hr.mono (by first | decide | omega)) rfl W.D__law_moved.g W.D__law_moved.F.kp W.D__law_moved.b (pa_cons (pv 0) (pa_cons (pv 4) (pa_cons (pv 5) pa_nil)))))))), ?_⟩
    simp only [tSeq, tIfS, tNext, tRet, tRetN, tAsg, tDrop, tPar, tCons, tNil, tCB, tVar, tC, tOp, rI, rI0, rU, tTest, tB, tTup, tLst, gName, tIf, tAnd, tOr, tNot, tAndV, tOrV, tNotV, tUn, tCall, tChain, tSl, tNoPart, tPart, tBM, tBM0, tDGet, sDPut, tAugS, ipI, tAug, rIxT, rIxL, rMulK, rLenK, rLstK, tTruK, gTup, gCons, gNil, rEq, rNe, scal, tNever, rMulK, rGcd, L2.start, List.map, List.length, List.replicate, List.cons_append, List.nil_append, List.append_nil, List.set, List.set_cons_zero, List.set_cons_succ, List.getElem?_cons_succ, List.getElem?_cons_zero, Option.some.injEq, List.cons.injEq, V.int.injEq, V.str.injEq, V.bl.injEq, V.ref.injEq, and_true, true_and, exists_eq_left, exists_eq_left', exists_eq_right, exists_eq_right', exists_eq, exists_and_left, exists_and_right, and_assoc, exists_false, false_and, and_false, or_false, false_or, reduceCtorEq, Nat.reduceAdd, Nat.reduceSub, List.append_assoc, eq_self, if_true, if_false, Bool.false_eq_true, decide_eq_true_eq, List.length_cons, List.length_nil]
    have bl : gB b ≤ 1900 := Nat.le_trans (gN_ge n (gB b)) hg
    have bol : bo ≤ 1900 := Nat.le_trans (gN_ge n bo) hbo
    refine tlcL ?_
    simp only [tSeq, tIfS, tNext, tRet, tRetN, tAsg, tDrop, tPar, tCons, tNil, tCB, tVar, tC, tOp, rI, rI0, rU, tTest, tB, tTup, tLst, gName, tIf, tAnd, tOr, tNot, tAndV, tOrV, tNotV, tUn, tCall, tChain, tSl, tNoPart, tPart, tBM, tBM0, tDGet, sDPut, tAugS, ipI, tAug, rIxT, rIxL, rMulK, rLenK, rLstK, tTruK, gTup, gCons, gNil, rEq, rNe, scal, tNever, rMulK, rGcd, L2.start, List.map, List.length, List.replicate, List.cons_append, List.nil_append, List.append_nil, List.set, List.set_cons_zero, List.set_cons_succ, List.getElem?_cons_succ, List.getElem?_cons_zero, Option.some.injEq, List.cons.injEq, V.int.injEq, V.str.injEq, V.bl.injEq, V.ref.injEq, and_true, true_and, exists_eq_left, exists_eq_left', exists_eq_right, exists_eq_right', exists_eq, exists_and_left, exists_and_right, and_assoc, exists_false, false_and, and_false, or_false, false_or, reduceCtorEq, Nat.reduceAdd, Nat.reduceSub, List.append_assoc, eq_self, if_true, if_false, Bool.false_eq_true, decide_eq_true_eq, List.length_cons, List.length_nil]
    refine ⟨v, x, bo, rfl, dx, ox, by omega, by omega, fun D H1 us hD k1 hd1 ha1 => ?_⟩
    refine lcL ((supV x).map ptD) (ptB fun y => decide (y ∉ points)) id (by rw [List.length_map, sizeLine_eq]; have := sup_len ox; omega) (sqL_mk hd1) ha1 (ptDs_tup _) (fun d h _ => tupDs_all.mp (ptDs_tup _) d h) (fun j d z H4 e dz k4 Q' q => ?_) (fun j d z H4 e _ dz k4 Q' q => ⟨z, rfl, q _ _ (Kp.refl _) dz⟩) fun D2 H2 vs hD2 k2 hd2 ha2 => ?_
    · obtain ⟨y, hy, rfl⟩ := List.mem_map.mp (List.mem_of_getElem? e)
      simp only [tSeq, tIfS, tNext, tRet, tRetN, tAsg, tDrop, tPar, tCons, tNil, tCB, tVar, tC, tOp, rI, rI0, rU, tTest, tB, tTup, tLst, gName, tIf, tAnd, tOr, tNot, tAndV, tOrV, tNotV, tUn, tCall, tChain, tSl, tNoPart, tPart, tBM, tBM0, tDGet, sDPut, tAugS, ipI, tAug, rIxT, rIxL, rMulK, rLenK, rLstK, tTruK, gTup, gCons, gNil, rEq, rNe, scal, tNever, rMulK, rGcd, L2.start, List.map, List.length, List.replicate, List.cons_append, List.nil_append, List.append_nil, List.set, List.set_cons_zero, List.set_cons_succ, List.getElem?_cons_succ, List.getElem?_cons_zero, Option.some.injEq, List.cons.injEq, V.int.injEq, V.str.injEq, V.bl.injEq, V.ref.injEq, and_true, true_and, exists_eq_left, exists_eq_left', exists_eq_right, exists_eq_right', exists_eq, exists_and_left, exists_and_right, and_assoc, exists_false, false_and, and_false, or_false, false_or, reduceCtorEq, Nat.reduceAdd, Nat.reduceSub, List.append_assoc, eq_self, if_true, if_false, Bool.false_eq_true, decide_eq_true_eq, List.length_cons, List.length_nil]
      refine ⟨ptD y, points.map ptD, dz.up, .lst (sqL_mk ((k1.trans k4) _ _ sa fun z => z)) (pts_tk da (Tk.of0 (k1.trans k4))).up, ptD_shaped _, ptL_shaped _, _, rfl, ?_⟩
      have e3 : (!(points.map ptD).any fun z => PyData.eqv z (ptD y)) = decide (y ∉ points) := by rw [any_pt]; simp
      rw [e3]
      exact q _ (Kp.refl _)
    · rw [filter_ptB, List.map_id] at ha2
      have k12 := k1.trans k2
      have sl := sup_len ox
      have so := sup_ok ox
      have rl : (restP points (supV x)).length ≤ (supV x).length := List.length_filter_le _ _
      have sa2 := k12 _ _ sa fun z => z
      refine ⟨pa, Or.inl (sqL_mk sa2), fun l hl1 => ⟨pa, Or.inl (sqL_mk (by rw [upd_ne (ne_of_none sa2 hl1)]; exact sa2)), fun l2 hl2 => ?_⟩⟩
      have kk : Kp M0 H2 (upd (upd H2 l (.lst pa)) l2 (.lst pa)) := (Kp.new hl1).trans (Kp.new hl2)
      have e : EndsOk (max b bo) b points points (restP points (supV x)) := by
        refine ends_ok (op.mono (Nat.le_max_left _ _)) op rfl (fun y hy => ?_) (so.asc.nodup.sublist List.filter_sublist) (fun y hy => of_decide_eq_true (List.mem_filter.mp hy).2) (by omega)
        have := (List.mem_filter.mp hy).1
        exact ⟨so.ok y this, (so.sz y this).mono (Nat.le_max_right _ _)⟩
      have bb : b ≤ 1000 := by unfold gB at bl; omega
      refine ⟨l, l2, D2, pa, pa, vs, points, points, restP points (supV x), rfl, by rw [upd_ne (ne_of_none upd_same hl2)]; exact upd_same, upd_same, kk _ _ hd2 fun z => z, pts_tk da (Tk.of0 (k12.trans kk)), pts_tk da (Tk.of0 (k12.trans kk)), pts_tk ha2 (Tk.of0 kk), ⟨max b bo, by omega, op.mono (Nat.le_max_left _ _), fun y hy => ?_⟩, ⟨b, op, by omega, bb⟩, rfl, by omega, by omega, fun te d1 d2 H5 ds es k5 ht5 hd5 he5 dd5 de5 => ?_⟩
      · have := (List.mem_filter.mp hy).1
        exact ⟨so.ok y this, (so.sz y this).mono (Nat.le_max_right _ _)⟩
      · have k05 := (k12.trans kk).trans k5
        refine ⟨te, rfl, _, ht5, rfl, _, _, rfl, _, _, rfl, rfl, ?_⟩
        exact ⟨v, d1, d2, x, ds, es, _, _, bo, gB b, rfl, dv_tk dx (Tk.of0 k05), ox, hbo, hw, hd5, he5, dd5, de5, e.o1.mono (by omega), e.o2, hg, e.len, by rw [e.lenV]; omega, fun y hy => (e.m1 y).mpr (rest_in hy), tabs_kp tb k05, fun y2 H6 k6 t6 d6 => k y2 H6 ((Kt.of k05).trans k6) t6 d6⟩
end
end G
set_option Elab.async false
set_option linter.all false
set_option maxRecDepth 100000
/-! all values over fewer points: plain mathematics -/
namespace G
open PySem L2
theorem asc_snocP (l : List Pt) (x : Pt) : ascP (l ++ [x]) = insP (ascP l) x := by unfold ascP; rw [List.foldl_append]; rfl
theorem known_eq {b : Nat} {others : List Pt} {point : Pt} (ho : PtsOk b others) (hp : PtOk point) (np : point ∉ others) : ascP (others ++ [point]) = others.take (lessN others point) ++ [point] ++ others.drop (lessN others point) := by
  rw [asc_snocP, asc_self ho]
  unfold insP
  rw [if_neg np]
  have e : (lowP others point).length = lessN others point := rfl
  obtain ⟨h1, _⟩ := low_take ho hp
  rw [e] at h1
  rw [e, h1]
structure KnownOk (b : Nat) (others : List Pt) (point : Pt) (known : List Pt) : Prop where
  ok : PtsOk b known
  len : known.length = others.length + 1
  lo : ∀ j, j < lessN others point → known[j]? = others[j]?
  at_ : known[lessN others point]? = some point
  hi : ∀ j, lessN others point ≤ j → known[j + 1]? = others[j]?
theorem known_ok {b : Nat} {others : List Pt} {point : Pt} (ho : PtsOk b others) (hp : PtOk point) (sp : Sz b point) (np : point ∉ others) : KnownOk b others point (ascP (others ++ [point])) := by
  have all : ∀ x ∈ others ++ [point], PtOk x ∧ Sz b x := fun x hx => by
    rcases List.mem_append.mp hx with z | z
    · exact ⟨ho.ok x z, ho.sz x z⟩
    · rw [List.mem_singleton.mp z]; exact ⟨hp, sp⟩
  have gl : lessN others point ≤ others.length := less_le
  have tl : (others.take (lessN others point)).length = lessN others point := by rw [List.length_take]; omega
  have e := known_eq ho hp np
  refine ⟨asc_ok all, ?_, fun j hj => ?_, ?_, fun j hj => ?_⟩
  · rw [e]; simp only [List.length_append, List.length_take, List.length_singleton, List.length_drop]; omega
  · rw [e, List.append_assoc, List.getElem?_append_left (by omega), List.getElem?_take_of_lt hj]
  · rw [e, List.append_assoc, List.getElem?_append_right (by omega), tl]; simp
  · rw [e, List.getElem?_append_right (by simp [List.length_take]; omega), List.getElem?_drop]
    congr 1
    simp only [List.length_append, List.length_take, List.length_singleton]; omega
theorem known_low {b : Nat} {others : List Pt} {point : Pt} {known : List Pt} {n : Nat} {y : Pt} (k : KnownOk b others point known) (hn : n < 1000) (hy : y ∈ spreadP known (lessN others point) n) : PtOk y ∧ Sz (gB b) y ∧ lessN others y = lessN others point ∧ y ∉ others ∧ ltP y point := by
  obtain ⟨i, hi, rfl⟩ := spread_mem hy
  have gl : lessN others point ≤ others.length := less_le
  obtain ⟨o, s, a1, a2⟩ := spread_at k.ok (gap := lessN others point) (by rw [k.len]; omega) hn hi
  have b1 : ∀ j x, j < lessN others point → others[j]? = some x → ltP x (spreadI known (lessN others point) n i) := fun j x hj hx => a1 j x hj (by rw [k.lo j hj]; exact hx)
  have b2 : ∀ j x, lessN others point ≤ j → others[j]? = some x → ltP (spreadI known (lessN others point) n i) x := fun j x hj hx => a2 (j + 1) x (by omega) (by rw [k.hi j hj]; exact hx)
  refine ⟨o, s, lessN_eq gl b1 fun j x hj hx => lt_asymm (b2 j x hj hx), fun m => ?_, a2 _ _ (Nat.le_refl _) k.at_⟩
  obtain ⟨j, hj⟩ := List.getElem?_of_mem m
  by_cases z : j < lessN others point
  · exact lt_irrefl _ (b1 j _ z hj)
  · exact lt_irrefl _ (b2 j _ (by omega) hj)
theorem known_high {b : Nat} {others : List Pt} {point : Pt} {known : List Pt} {n : Nat} {y : Pt} (k : KnownOk b others point known) (hn : n < 1000) (hy : y ∈ spreadP known (lessN others point + 1) n) : PtOk y ∧ Sz (gB b) y ∧ lessN others y = lessN others point ∧ y ∉ others ∧ ltP point y := by
  obtain ⟨i, hi, rfl⟩ := spread_mem hy
  have gl : lessN others point ≤ others.length := less_le
  obtain ⟨o, s, a1, a2⟩ := spread_at k.ok (gap := lessN others point + 1) (by rw [k.len]; omega) hn hi
  have b1 : ∀ j x, j < lessN others point → others[j]? = some x → ltP x (spreadI known (lessN others point + 1) n i) := fun j x hj hx => a1 j x (by omega) (by rw [k.lo j hj]; exact hx)
  have b2 : ∀ j x, lessN others point ≤ j → others[j]? = some x → ltP (spreadI known (lessN others point + 1) n i) x := fun j x hj hx => a2 (j + 1) x (by omega) (by rw [k.hi j hj]; exact hx)
  refine ⟨o, s, lessN_eq gl b1 fun j x hj hx => lt_asymm (b2 j x hj hx), fun m => ?_, a1 _ _ (Nat.lt_succ_self _) k.at_⟩
  obtain ⟨j, hj⟩ := List.getElem?_of_mem m
  by_cases z : j < lessN others point
  · exact lt_irrefl _ (b1 j _ z hj)
  · exact lt_irrefl _ (b2 j _ (by omega) hj)
def hereP (others rest : List Pt) (gap : Nat) : List Pt := rest.filter fun x => decide (lessN others x = gap)
def newsP (known : List Pt) (point : Pt) (gap low on many : Nat) : List Pt := spreadP known gap low ++ [point].take on ++ spreadP known (gap + 1) many
theorem split_len {α : Type} [DecidableEq α] (p : α → Bool) : ∀ l : List α, (l.filter p).length + (l.filter fun x => !p x).length = l.length
  | [] => rfl
  | x :: l => by
    have := split_len p l
    by_cases z : p x = true
    · rw [List.filter_cons_of_pos z, List.filter_cons_of_neg (by simp [z])]; simp only [List.length_cons]; omega
    · rw [List.filter_cons_of_neg z, List.filter_cons_of_pos (by simp [z])]; simp only [List.length_cons]; omega
theorem away_len {others rest : List Pt} {gap : Nat} : (hereP others rest gap).length + (restP (hereP others rest gap) rest).length = rest.length := by
  have := split_len (fun x => decide (lessN others x = gap)) rest
  have e : restP (hereP others rest gap) rest = rest.filter fun x => !decide (lessN others x = gap) := by
    unfold restP
    apply List.filter_congr
    intro x hx
    unfold hereP
    simp [hx]
  rw [e]; exact this
theorem bundle_ends {b bo : Nat} {others rest : List Pt} {point : Pt} {low on : Nat} (ho : PtsOk b others) (hp : PtOk point) (sp : Sz b point) (np : point ∉ others) (hr : ∀ x ∈ rest, PtOk x ∧ Sz bo x) (nd : rest.Nodup) (no : ∀ x ∈ rest, x ∉ others)
    (hc : rest.length < 1000) (h2 : low + on ≤ (hereP others rest (lessN others point)).length) (h3 : on ≤ 1) :
    (∀ x ∈ others ++ restP (hereP others rest (lessN others point)) rest ++ newsP (ascP (others ++ [point])) point (lessN others point) low on ((hereP others rest (lessN others point)).length - low - on), PtOk x ∧ Sz (max (gB b) bo) x) ∧
    (others ++ restP (hereP others rest (lessN others point)) rest ++ newsP (ascP (others ++ [point])) point (lessN others point) low on ((hereP others rest (lessN others point)).length - low - on)).Nodup ∧
    (others ++ restP (hereP others rest (lessN others point)) rest ++ newsP (ascP (others ++ [point])) point (lessN others point) low on ((hereP others rest (lessN others point)).length - low - on)).length = others.length + rest.length := by
  have k := known_ok ho hp sp np
  generalize ascP (others ++ [point]) = known at k
  generalize hm : (hereP others rest (lessN others point)).length - low - on = many
  have hl : (hereP others rest (lessN others point)).length ≤ rest.length := List.length_filter_le _ _
  have bb : b ≤ gB b := by unfold gB; omega
  have onmem : ∀ y ∈ [point].take on, y = point := fun y hy => List.mem_singleton.mp (List.mem_of_mem_take hy)
  have lowF := fun y (hy : y ∈ spreadP known (lessN others point) low) => known_low k (n := low) (by omega) hy
  have highF := fun y (hy : y ∈ spreadP known (lessN others point + 1) many) => known_high k (n := many) (by omega) hy
  have newsF : ∀ y ∈ newsP known point (lessN others point) low on many, PtOk y ∧ Sz (gB b) y ∧ lessN others y = lessN others point ∧ y ∉ others := fun y hy => by
    unfold newsP at hy
    rcases List.mem_append.mp hy with z | z
    · rcases List.mem_append.mp z with z | z
      · obtain ⟨a, b, c, d, _⟩ := lowF y z; exact ⟨a, b, c, d⟩
      · rw [onmem y z]; exact ⟨hp, sp.mono bb, rfl, np⟩
    · obtain ⟨a, b, c, d, _⟩ := highF y z; exact ⟨a, b, c, d⟩
  have newsA : Asc (newsP known point (lessN others point) low on many) := by
    unfold newsP Asc
    have gl : lessN others point ≤ others.length := less_le
    refine List.pairwise_append.mpr ⟨List.pairwise_append.mpr ⟨spread_asc k.ok (by rw [k.len]; omega), (List.pairwise_singleton _ _).sublist (List.take_sublist _ _), fun x hx y hy => ?_⟩, spread_asc k.ok (by rw [k.len]; omega), fun x hx y hy => ?_⟩
    · rw [onmem y hy]; exact (lowF x hx).2.2.2.2
    · obtain ⟨oy, _, _, _, ly⟩ := highF y hy
      rcases List.mem_append.mp hx with z | z
      · obtain ⟨ox, _, _, _, lx⟩ := lowF x z
        exact lt_trans ox.pos hp.pos oy.pos lx ly
      · rw [onmem x z]; exact ly
  refine ⟨fun x hx => ?_, ?_, ?_⟩
  · rcases List.mem_append.mp hx with z | z
    · rcases List.mem_append.mp z with z | z
      · exact ⟨ho.ok x z, (ho.sz x z).mono (by have := Nat.le_max_left (gB b) bo; omega)⟩
      · have := hr x (List.mem_filter.mp z).1
        exact ⟨this.1, this.2.mono (Nat.le_max_right _ _)⟩
    · obtain ⟨a, c, _⟩ := newsF x z
      exact ⟨a, c.mono (Nat.le_max_left _ _)⟩
  · refine List.nodup_append.mpr ⟨List.nodup_append.mpr ⟨ho.asc.nodup, nd.sublist List.filter_sublist, fun x hx y hy e => no y (List.mem_filter.mp hy).1 (e ▸ hx)⟩, newsA.nodup, fun x hx y hy e => ?_⟩
    obtain ⟨_, _, c, d⟩ := newsF y hy
    rcases List.mem_append.mp hx with z | z
    · exact d (e ▸ z)
    · obtain ⟨z1, z2⟩ := List.mem_filter.mp z
      refine (of_decide_eq_true z2) (List.mem_filter.mpr ⟨z1, decide_eq_true ?_⟩)
      rw [e]; exact c
  · have al := away_len (others := others) (rest := rest) (gap := lessN others point)
    have e : (newsP known point (lessN others point) low on many).length = low + on + many := by
      unfold newsP
      simp only [List.length_append, List.length_take, List.length_singleton, spreadP, List.length_map, List.length_range]
      omega
    simp only [List.length_append, e]; omega
end G
set_option Elab.async false
set_option linter.all false
set_option maxRecDepth 100000
set_option maxHeartbeats 4000000
set_option exponentiation.threshold 10000
namespace G
open PySem L2 LamX NdefX
section
variable {P : Program} {w : World} {K : PySem.W.Frag} {mg : Str → Option Value} {base : Heap}
/-- [one for one in l if one not in m] -/
theorem lcNotIn {s j : Nat} {σ : L2.St} {H : Hp} {Q : VK} {a m : Addr} {us ms : List V} {l ps : List Pt} (hs : ∀ x, ((σ.set s none).set s (some x))[s]? = some (some x)) (hj : ∀ x, ((σ.set s none).set s (some x))[j]? = some (some (.ref m)))
    (sa : SqL K H a us) (da : DpAll K H us (l.map ptD)) (sm : SqL K H m ms) (dm : DpAll K H ms (ps.map ptD)) (hn : l.length < 100000)
    (k : ∀ D H' vs, H D = none → Kp M0 H H' → H' D = some (.lst vs) → DpAll K H' vs ((restP ps l).map ptD) → Q (.ref D) H') : LcL K s (tTest (tOp (rNotInD K) (tVar s) (tVar j))) (tVar s) σ Q (.ref a) H := by
  refine lcL (l.map ptD) (ptB fun y => decide (y ∉ ps)) id (by rw [List.length_map, sizeLine_eq]; omega) sa da (ptDs_tup _) (fun d h _ => tupDs_all.mp (ptDs_tup _) d h) (fun i d z H4 e dz k4 Q' q => ?_) (fun i d z H4 e _ dz k4 Q' q => ⟨z, hs z, q _ _ (Kp.refl _) dz⟩) fun D H' vs hD k1 hd ha => ?_
  · obtain ⟨y, hy, rfl⟩ := List.mem_map.mp (List.mem_of_getElem? e)
    refine ⟨z, hs z, .ref m, hj z, ptD y, ps.map ptD, dz.up, .lst (SqL.keep sm k4) (pts_tk dm (Tk.of0 k4)).up, ptD_shaped _, ptL_shaped _, _, rfl, ?_⟩
    have e3 : (!(ps.map ptD).any fun z => PyData.eqv z (ptD y)) = decide (y ∉ ps) := by rw [any_pt]; simp
    rw [e3]
    exact q _ (Kp.refl _)
  · rw [filter_ptB, List.map_id] at ha
    exact k D H' vs hD k1 hd ha
/-- [one for one in l if _law_gap(others, one) == gap] -/
theorem lcGapEq {s j g : Nat} {σ : L2.St} {H : Hp} {Q : VK} {a m : Addr} {us ms : List V} {l ps : List Pt} {i : Nat} (hs : ∀ x, ((σ.set s none).set s (some x))[s]? = some (some x)) (hj : ∀ x, ((σ.set s none).set s (some x))[j]? = some (some (.ref m)))
    (hg : ∀ x, ((σ.set s none).set s (some x))[g]? = some (some (.int (i : Nat)))) (sa : SqL K H a us) (da : DpAll K H us (l.map ptD)) (sm : SqL K H m ms) (dm : DpAll K H ms (ps.map ptD)) (hn : l.length < 100000) (hp : ps.length < 100000) (z1 : ∀ x ∈ l, Sz 4000 x) (z2 : ∀ x ∈ ps, Sz 4000 x)
    (k : ∀ D H' vs, H D = none → Kp M0 H H' → H' D = some (.lst vs) → DpAll K H' vs ((hereP ps l i).map ptD) → Q (.ref D) H') :
    LcL K s (tTest (tOp rEq (tCall (sp__law_gap K) [] E0 (tCons (tVar j) (tCons (tVar s) tNil))) (tVar g))) (tVar s) σ Q (.ref a) H := by
  refine lcL (l.map ptD) (ptB fun y => decide (lessN ps y = i)) id (by rw [List.length_map, sizeLine_eq]; omega) sa da (ptDs_tup _) (fun d h _ => tupDs_all.mp (ptDs_tup _) d h) (fun i' d z H4 e dz k4 Q' q => ?_) (fun i' d z H4 e _ dz k4 Q' q => ⟨z, hs z, q _ _ (Kp.refl _) dz⟩) fun D H' vs hD k1 hd ha => ?_
  · obtain ⟨y, hy, rfl⟩ := List.mem_map.mp (List.mem_of_getElem? e)
    refine ⟨.ref m, hj z, z, hs z, m, z, ms, ps, y, rfl, SqL.keep sm k4, pts_tk dm (Tk.of0 k4), dz, z2, z1 y hy, hp, fun H5 k5 => ⟨_, hg z, rfl, ?_⟩⟩
    refine ⟨_, rfl, ?_⟩
    have e1 : decide (V.int ((lessN ps y : Nat) : Int) = V.int ((i : Nat) : Int)) = decide (lessN ps y = i) := by
      by_cases z : lessN ps y = i
      · rw [z, decide_eq_true rfl, decide_eq_true rfl]
      · rw [decide_eq_false z, decide_eq_false fun y => z (by injection y with y; omega)]
    rw [e1]
    exact q H5 k5
  · rw [filter_ptB, List.map_id] at ha
    exact k D H' vs hD k1 hd ha
/-! ### _law_bundle -/
def sp_bundle (K : PySem.W.Frag) (T : List (Addr × Str)) (n : Nat) : Sp := fun vs H Q _ => ∃ (v u : V) (a : Addr) (x : Vl) (oa : List V) (others : List Pt) (point : Pt) (bo b : Nat), vs = [v, .ref a, u] ∧ Dp K H v (vlD x) ∧ VOk n bo x ∧ gN n (max (gB b) bo) ≤ 1900 ∧ vw x < 1000 ∧
  H a = some (.lst oa) ∧ DpAll K H oa (others.map ptD) ∧ PtsOk b others ∧ Dp K H u (ptD point) ∧ PtOk point ∧ Sz b point ∧ point ∉ others ∧ others.length < 900 ∧ Tabs T H ∧
  ∀ (D : Addr) (H' : Hp) (us : List V) (fs : List Vl), Kt M0 H H' → Tabs T H' → H' D = some (.lst us) → DpAll K H' us (fs.map vlD) → (∀ f ∈ fs, VOk n (gB b) f) → fs.length < 10000 → Q (.ref D) H'
def BunI (K : PySem.W.Frag) (T : List (Addr × Str)) (n b : Nat) (pre : List (Option V)) (HK : Hp) (p ol : Addr) (os : List V) (olds : List Pt) (v11 : Option V) (N : Nat) (σ : L2.St) (H' : Hp) : Prop :=
  ∃ (us : List V) (fs : List Vl) (v12 v13 v14 : Option V), σ = pre ++ [some (.ref p), some (.ref ol), v11, v12, v13, v14] ∧ Kt M0 HK H' ∧ Tabs T H' ∧ H' p = some (.lst us) ∧ H' ol = some (.lst os) ∧ DpAll K H' os (olds.map ptD) ∧ DpAll K H' us (fs.map vlD) ∧ (∀ f ∈ fs, VOk n (gB b) f) ∧ fs.length ≤ N
theorem ok__law_bundle (W : Ds K mg) (B : Tbs W base) (n : Nat) : FnG P w K mg base (n + 7) W.f__law_bundle W.fd__law_bundle P__law_bundle (sp_bundle K B.T n) := by
  refine fnG_ok W.D__law_bundle.F sc__law_bundle (fun vs H Q E h => ?len) (fun cdv A outer s H vs Q E nr hr h => ?body)
  case len =>
    obtain ⟨v, u, a, x, oa, others, point, bo, b, rfl, _⟩ := h
    rfl
  case body =>
    obtain ⟨v, u, a, x, oa, others, point, bo, b, rfl, dx, ox, hg, hw, sa, da, oo, du, op, spt, np, hl, tb, k⟩ := h
    have nd := sc__law_bundle.nd
    have hu := hu_of hr
    have hu64 := hr.units
    have hu65 := hu65_of hr
    refine ⟨_, (pss_cons (ps_asg (pe_tup (pa_cons (pe_lc (own := [("one", 3)]) rfl nd (i_list K (pe_call (ok__law_support W n) (hr.mono (by first | decide | omega)) rfl W.D__law_support.g W.D__law_support.F.kp W.D__law_support.b .nil pass0 (pa_cons (pv 0) pa_nil))) (blkOk_by (N := N__law_bundle) (sc := defScope s__law_bundle) (by decide +kernel)) (fun _ _ _ _ _ => (pg_name (i := 3) nd rfl (by first | exact Or.inl rfl | exact Or.inr rfl))) (fun _ _ _ _ _ => (pts_one (pt_cmpR (k_notInD K hu65) (pv 3) (pv 1) (by with_unfolding_all rfl)))) (fun _ _ _ _ _ => (pv 3))) (pa_cons (pe_call (ok__law_gap W) (hr.mono (by first | decide | omega)) rfl W.D__law_gap.g W.D__law_gap.F.kp W.D__law_gap.b .nil pass0 (pa_cons (pv 1) (pa_cons (pv 2) pa_nil))) pa_nil))) (g_tup K (pg_tup (n := 2) rfl (pgs_cons (pg_name (i := 4) nd rfl (by first | exact Or.inl rfl | exact Or.inr rfl)) (pgs_cons (pg_name (i := 5) nd rfl (by first | exact Or.inl rfl | exact Or.inr rfl)) pgs_nil)))))
  (pss_cons (ps_set (i := 6) nd rfl (by first | exact Or.inl rfl | exact Or.inr rfl) (pe_lc (own := [("one", 3)]) rfl nd (i_list K (pv 4)) (blkOk_by (N := N__law_bundle) (sc := defScope s__law_bundle) (by decide +kernel)) (fun _ _ _ _ _ => (pg_name (i := 3) nd rfl (by first | exact Or.inl rfl | exact Or.inr rfl))) (fun _ _ _ _ _ => (pts_one (pt_cmpR op_eq (pe_call (ok__law_gap W) (hr.mono (by first | decide | omega)) rfl W.D__law_gap.g W.D__law_gap.F.kp W.D__law_gap.b .nil pass0 (pa_cons (pv 1) (pa_cons (pv 3) pa_nil))) (pv 5) (nomark _)))) (fun _ _ _ _ _ => (pv 3))))
  (pss_cons (ps_par3 (i := 7) (j := 8) (l := 9) rfl nd rfl rfl rfl (by decide) (by decide) (by decide) rfl rfl rfl (pa_cons (pe_lc (own := [("one", 3)]) rfl nd (i_list K (pv 4)) (blkOk_by (N := N__law_bundle) (sc := defScope s__law_bundle) (by decide +kernel)) (fun _ _ _ _ _ => (pg_name (i := 3) nd rfl (by first | exact Or.inl rfl | exact Or.inr rfl))) (fun _ _ _ _ _ => (pts_one (pt_cmpR (k_notInD K hu65) (pv 3) (pv 6) (by with_unfolding_all rfl)))) (fun _ _ _ _ _ => (pv 3))) (pa_cons (pe_call (ok__law_ascending W) (hr.mono (by first | decide | omega)) rfl W.D__law_ascending.g W.D__law_ascending.F.kp W.D__law_ascending.b .nil pass0 (pa_cons (pe_op op_cat (pv 1) (pe_lst (pa_cons (pv 2) pa_nil))) pa_nil)) (pa_cons (pe_lst pa_nil) pa_nil))) (by rfl))
  (pss_cons (ps_set (i := 10) nd rfl (by first | exact Or.inl rfl | exact Or.inr rfl) (pe_call (ok__law_ascending W) (hr.mono (by first | decide | omega)) rfl W.D__law_ascending.g W.D__law_ascending.F.kp W.D__law_ascending.b .nil pass0 (pa_cons (pe_op op_cat (pv 1) (pv 4)) pa_nil)))
  (pss_cons (ps_for PassesOwn.never rfl (pi_range1 rfl W.T.b_range (pa_cons (pe_op op_add (pe_callB (c_len K) (by rfl) W.T.b_len (by decide +kernel) (pa_cons (pv 6) pa_nil)) pe_int) pa_nil)) (pg_name (i := 11) nd rfl (by first | exact Or.inl rfl | exact Or.inr rfl))
     (pss_one (ps_for PassesOwn.never rfl (pi_range1 rfl W.T.b_range (pa_cons (pe_op op_add pe_int (pe_callTy call_int1 (by rfl) W.T.b_int (by decide +kernel) (pa_cons (pe_cmpR op_lt (pv 11) (pe_callB (c_len K) (by rfl) W.T.b_len (by decide +kernel) (pa_cons (pv 6) pa_nil)) (nomark _)) pa_nil))) pa_nil)) (pg_name (i := 12) nd rfl (by first | exact Or.inl rfl | exact Or.inr rfl))
         (pss_cons (ps_set (i := 13) nd rfl (by first | exact Or.inl rfl | exact Or.inr rfl) (pe_op op_cat (pe_call (ok__law_spread W) (hr.mono (by first | decide | omega)) rfl W.D__law_spread.g W.D__law_spread.F.kp W.D__law_spread.b .nil pass0 (pa_cons (pv 8) (pa_cons (pv 5) (pa_cons (pv 11) pa_nil)))) (pe_slice (k_slL K) (pe_lst (pa_cons (pv 2) pa_nil)) po_none (po_some (pv 12)))))
          (pss_cons (ps_set (i := 13) nd rfl (by first | exact Or.inl rfl | exact Or.inr rfl) (pe_op op_cat (pv 13) (pe_call (ok__law_spread W) (hr.mono (by first | decide | omega)) rfl W.D__law_spread.g W.D__law_spread.F.kp W.D__law_spread.b .nil pass0 (pa_cons (pv 8) (pa_cons (pe_op op_add (pv 5) pe_int) (pa_cons (pe_op op_sub (pe_op op_sub (pe_callB (c_len K) (by rfl) W.T.b_len (by decide +kernel) (pa_cons (pv 6) pa_nil)) (pv 11)) (pv 12)) pa_nil))))))
          (pss_cons (ps_set (i := 14) nd rfl (by first | exact Or.inl rfl | exact Or.inr rfl) (pe_call (ok__law_ascending W) (hr.mono (by first | decide | omega)) rfl W.D__law_ascending.g W.D__law_ascending.F.kp W.D__law_ascending.b .nil pass0 (pa_cons (pe_op op_cat (pe_op op_cat (pv 1) (pv 7)) (pv 13)) pa_nil)))
          (pss_one (ps_expr (e_bm K (pe_bm PySem.F.plainAttrs_list PySem.F.slot_list_append PySem.F.type_list_append mt_append (pv 9) (pa_cons (peG_call (ok__law_placed W B n) nr (hr.mono (by first | decide | omega)) rfl W.D__law_placed.g W.D__law_placed.F.kp W.D__law_placed.b (pa_cons (peG_call (ok__law_moved W B n) nr (hr.mono (by first | decide | omega)) rfl W.D__law_moved.g W.D__law_moved.F.kp W.D__law_moved.b (pa_cons (pv 0) (pa_cons (pv 10) (pa_cons (pv 14) pa_nil)))) (pa_cons (pv 8) pa_nil))) pa_nil)))))))))))
  (pss_one (ps_ret (pv 9)))))))), ?_⟩
    simp only [tSeq, tIfS, tNext, tRet, tRetN, tAsg, tDrop, tPar, tCons, tNil, tCB, tVar, tC, tOp, rI, rI0, rU, tTest, tB, tTup, tLst, gName, tIf, tAnd, tOr, tNot, tAndV, tOrV, tNotV, tUn, tCall, tChain, tSl, tNoPart, tPart, tBM, tBM0, tDGet, sDPut, tAugS, ipI, tAug, rIxT, rIxL, rMulK, rLenK, rLstK, tTruK, gTup, gCons, gNil, rEq, rNe, scal, tNever, rMulK, rGcd, L2.start, List.map, List.length, List.replicate, List.cons_append, List.nil_append, List.append_nil, List.set, List.set_cons_zero, List.set_cons_succ, List.getElem?_cons_succ, List.getElem?_cons_zero, Option.some.injEq, List.cons.injEq, V.int.injEq, V.str.injEq, V.bl.injEq, V.ref.injEq, and_true, true_and, exists_eq_left, exists_eq_left', exists_eq_right, exists_eq_right', exists_eq, exists_and_left, exists_and_right, and_assoc, exists_false, false_and, and_false, or_false, false_or, reduceCtorEq, Nat.reduceAdd, Nat.reduceSub, List.append_assoc, eq_self, if_true, if_false, Bool.false_eq_true, decide_eq_true_eq, List.length_cons, List.length_nil]
    have gb : gB b ≤ 1900 := Nat.le_trans (Nat.le_max_left _ bo) (Nat.le_trans (gN_ge n _) hg)
    have bol : bo ≤ 1900 := Nat.le_trans (Nat.le_max_right (gB b) _) (Nat.le_trans (gN_ge n _) hg)
    have bb : b ≤ 944 := by unfold gB at gb; omega
    have so := sup_ok ox
    have sl := sup_len ox
    refine tlcL ?_
    simp only [tSeq, tIfS, tNext, tRet, tRetN, tAsg, tDrop, tPar, tCons, tNil, tCB, tVar, tC, tOp, rI, rI0, rU, tTest, tB, tTup, tLst, gName, tIf, tAnd, tOr, tNot, tAndV, tOrV, tNotV, tUn, tCall, tChain, tSl, tNoPart, tPart, tBM, tBM0, tDGet, sDPut, tAugS, ipI, tAug, rIxT, rIxL, rMulK, rLenK, rLstK, tTruK, gTup, gCons, gNil, rEq, rNe, scal, tNever, rMulK, rGcd, L2.start, List.map, List.length, List.replicate, List.cons_append, List.nil_append, List.append_nil, List.set, List.set_cons_zero, List.set_cons_succ, List.getElem?_cons_succ, List.getElem?_cons_zero, Option.some.injEq, List.cons.injEq, V.int.injEq, V.str.injEq, V.bl.injEq, V.ref.injEq, and_true, true_and, exists_eq_left, exists_eq_left', exists_eq_right, exists_eq_right', exists_eq, exists_and_left, exists_and_right, and_assoc, exists_false, false_and, and_false, or_false, false_or, reduceCtorEq, Nat.reduceAdd, Nat.reduceSub, List.append_assoc, eq_self, if_true, if_false, Bool.false_eq_true, decide_eq_true_eq, List.length_cons, List.length_nil]
    refine ⟨v, x, bo, rfl, dx, ox, by omega, by omega, fun D H1 us hD k1 hd1 ha1 => ?_⟩
    refine lcNotIn (fun _ => rfl) (fun _ => rfl) (sqL_mk hd1) ha1 (sqL_mk (k1 _ _ sa fun z => z)) (pts_tk da (Tk.of0 k1)) (by omega) fun rr H2 rs hrr k2 hr2 dr2 => ?_
    have k12 := k1.trans k2
    have rl : (restP others (supV x)).length ≤ (supV x).length := List.length_filter_le _ _
    refine ⟨a, u, oa, others, point, rfl, sqL_mk (k12 _ _ sa fun z => z), pts_tk da (Tk.of0 k12), dp_tk (Tk.of0 k12) _ _ (ptD_tup _) du, fun y hy => (oo.sz y hy).mono (by omega), spt.mono (by omega), by omega, fun H3 k3 => ⟨by decide, fun p hp => ⟨_, sqT_mk upd_same, rfl, _, _, rfl, _, _, rfl, rfl, ?_⟩⟩⟩
    have k23 : Kp M0 H2 (upd H3 p (.tup [.ref rr, .int ((lessN others point : Nat) : Int)])) := k3.trans (Kp.new hp)
    have k03 := k12.trans k23
    refine tlcL ?_
    simp only [tSeq, tIfS, tNext, tRet, tRetN, tAsg, tDrop, tPar, tCons, tNil, tCB, tVar, tC, tOp, rI, rI0, rU, tTest, tB, tTup, tLst, gName, tIf, tAnd, tOr, tNot, tAndV, tOrV, tNotV, tUn, tCall, tChain, tSl, tNoPart, tPart, tBM, tBM0, tDGet, sDPut, tAugS, ipI, tAug, rIxT, rIxL, rMulK, rLenK, rLstK, tTruK, gTup, gCons, gNil, rEq, rNe, scal, tNever, rMulK, rGcd, L2.start, List.map, List.length, List.replicate, List.cons_append, List.nil_append, List.append_nil, List.set, List.set_cons_zero, List.set_cons_succ, List.getElem?_cons_succ, List.getElem?_cons_zero, Option.some.injEq, List.cons.injEq, V.int.injEq, V.str.injEq, V.bl.injEq, V.ref.injEq, and_true, true_and, exists_eq_left, exists_eq_left', exists_eq_right, exists_eq_right', exists_eq, exists_and_left, exists_and_right, and_assoc, exists_false, false_and, and_false, or_false, false_or, reduceCtorEq, Nat.reduceAdd, Nat.reduceSub, List.append_assoc, eq_self, if_true, if_false, Bool.false_eq_true, decide_eq_true_eq, List.length_cons, List.length_nil]
    refine lcGapEq (fun _ => rfl) (fun _ => rfl) (fun _ => rfl) (sqL_mk (k23 _ _ hr2 fun z => z)) (pts_tk dr2 (Tk.of0 k23)) (sqL_mk (k03 _ _ sa fun z => z)) (pts_tk da (Tk.of0 k03)) (by omega) (by omega) (fun y hy => (so.sz y (List.mem_filter.mp hy).1).mono (by omega)) (fun y hy => (oo.sz y hy).mono (by omega)) fun hh H4 hv hhh k4 hh4 dh4 => ?_
    have k24 := k23.trans k4
    have k04 := k03.trans k4
    simp only [tPar3, tSeq, tIfS, tNext, tRet, tRetN, tAsg, tDrop, tPar, tCons, tNil, tCB, tVar, tC, tOp, rI, rI0, rU, tTest, tB, tTup, tLst, gName, tIf, tAnd, tOr, tNot, tAndV, tOrV, tNotV, tUn, tCall, tChain, tSl, tNoPart, tPart, tBM, tBM0, tDGet, sDPut, tAugS, ipI, tAug, rIxT, rIxL, rMulK, rLenK, rLstK, tTruK, gTup, gCons, gNil, rEq, rNe, scal, tNever, rMulK, rGcd, L2.start, List.map, List.length, List.replicate, List.cons_append, List.nil_append, List.append_nil, List.set, List.set_cons_zero, List.set_cons_succ, List.getElem?_cons_succ, List.getElem?_cons_zero, Option.some.injEq, List.cons.injEq, V.int.injEq, V.str.injEq, V.bl.injEq, V.ref.injEq, and_true, true_and, exists_eq_left, exists_eq_left', exists_eq_right, exists_eq_right', exists_eq, exists_and_left, exists_and_right, and_assoc, exists_false, false_and, and_false, or_false, false_or, reduceCtorEq, Nat.reduceAdd, Nat.reduceSub, List.append_assoc, eq_self, if_true, if_false, Bool.false_eq_true, decide_eq_true_eq, List.length_cons, List.length_nil]
    have hl1 : (hereP others (restP others (supV x)) (lessN others point)).length ≤ (restP others (supV x)).length := List.length_filter_le _ _
    have hvl : hv.length = (hereP others (restP others (supV x)) (lessN others point)).length := by rw [dps_len dh4, List.length_map]
    generalize hrest : restP others (supV x) = rest at *
    generalize hhere : hereP others rest (lessN others point) = here at *
    have restok : ∀ y ∈ rest, PtOk y ∧ Sz bo y := fun y hy => by
      rw [← hrest] at hy
      have := (List.mem_filter.mp hy).1
      exact ⟨so.ok y this, so.sz y this⟩
    have restnd : rest.Nodup := by rw [← hrest]; exact so.asc.nodup.sublist List.filter_sublist
    have restno : ∀ y ∈ rest, y ∉ others := fun y hy => by rw [← hrest] at hy; exact of_decide_eq_true (List.mem_filter.mp hy).2
    refine tlcL ?_
    simp only [tSeq, tIfS, tNext, tRet, tRetN, tAsg, tDrop, tPar, tCons, tNil, tCB, tVar, tC, tOp, rI, rI0, rU, tTest, tB, tTup, tLst, gName, tIf, tAnd, tOr, tNot, tAndV, tOrV, tNotV, tUn, tCall, tChain, tSl, tNoPart, tPart, tBM, tBM0, tDGet, sDPut, tAugS, ipI, tAug, rIxT, rIxL, rMulK, rLenK, rLstK, tTruK, gTup, gCons, gNil, rEq, rNe, scal, tNever, rMulK, rGcd, L2.start, List.map, List.length, List.replicate, List.cons_append, List.nil_append, List.append_nil, List.set, List.set_cons_zero, List.set_cons_succ, List.getElem?_cons_succ, List.getElem?_cons_zero, Option.some.injEq, List.cons.injEq, V.int.injEq, V.str.injEq, V.bl.injEq, V.ref.injEq, and_true, true_and, exists_eq_left, exists_eq_left', exists_eq_right, exists_eq_right', exists_eq, exists_and_left, exists_and_right, and_assoc, exists_false, false_and, and_false, or_false, false_or, reduceCtorEq, Nat.reduceAdd, Nat.reduceSub, List.append_assoc, eq_self, if_true, if_false, Bool.false_eq_true, decide_eq_true_eq, List.length_cons, List.length_nil]
    refine lcNotIn (fun _ => rfl) (fun _ => rfl) (sqL_mk (k24 _ _ hr2 fun z => z)) (pts_tk dr2 (Tk.of0 k24)) (sqL_mk hh4) dh4 (by omega) fun aw H5 av haw k5 hw5 dw5 => ?_
    have k05 := k04.trans k5
    refine ⟨by decide, fun q1 hq1 => ?_⟩
    have k56 : Kp M0 H5 (upd H5 q1 (.lst [u])) := Kp.new hq1
    refine ⟨a, q1, oa, [u], rfl, rfl, (k05.trans k56) _ _ sa fun z => z, upd_same, by rw [sizeLine_eq, dps_len da]; simp; omega, fun q2 hq2 => ?_⟩
    have k57 : Kp M0 H5 (upd (upd H5 q1 (.lst [u])) q2 (.lst (oa ++ [u]))) := k56.trans (Kp.new hq2)
    refine ⟨q2, oa ++ [u], others ++ [point], rfl, sqL_mk upd_same, by rw [List.map_append]; exact dps_app (pts_tk da (Tk.of0 (k05.trans k57))) (dps_one (dp_tk (Tk.of0 (k05.trans k57)) _ _ (ptD_tup _) du)), fun y hy => ?_, by simp; omega, fun kn H8 ks hkn k8 hk8 dk8 => ?_⟩
    · rcases List.mem_append.mp hy with z | z
      · exact ⟨oo.ok y z, (oo.sz y z).mono (by omega)⟩
      · rw [List.mem_singleton.mp z]; exact ⟨op, spt.mono (by omega)⟩
    have k08 : Kp M0 H H8 := (k05.trans k57).trans k8
    refine ⟨by decide, fun p hp => ?_⟩
    have hp8 := Kp.new (M := M0) (o := .lst []) hp
    have k28 : Kp M0 H2 H8 := ((k24.trans k5).trans k57).trans k8
    have k58 : Kp M0 H5 H8 := k57.trans k8
    have k48 : Kp M0 H4 H8 := k5.trans k58
    refine ⟨a, rr, oa, rs, rfl, rfl, hp8 _ _ (k08 _ _ sa fun z => z) fun z => z, hp8 _ _ (k28 _ _ hr2 fun z => z) fun z => z, by rw [sizeLine_eq, dps_len da, dps_len dr2]; simp; omega, fun q3 hq3 => ?_⟩
    have k89 : Kp M0 H8 (upd (upd H8 p (.lst [])) q3 (.lst (oa ++ rs))) := hp8.trans (Kp.new hq3)
    refine ⟨q3, oa ++ rs, others ++ rest, rfl, sqL_mk upd_same, by rw [List.map_append]; exact dps_app (pts_tk da (Tk.of0 (k08.trans k89))) (pts_tk dr2 (Tk.of0 (k28.trans k89))), fun y hy => ?_, by rw [List.length_append]; omega, fun ol H9 os hol k9 ho9 do9 => ?_⟩
    · rcases List.mem_append.mp hy with z | z
      · exact ⟨oo.ok y z, (oo.sz y z).mono (by omega)⟩
      · exact ⟨(restok y z).1, (restok y z).2.mono (by omega)⟩
    have k89' : Kp M0 H8 H9 := k89.trans k9
    have hp9 : H9 p = some (.lst []) := k9 _ _ (by rw [upd_ne (ne_of_none upd_same hq3)]; exact upd_same) fun z => z
    have tb9 : Tabs B.T H9 := tabs_kp tb (k08.trans k89')
    have K0 := known_ok oo op spt np
    have k98 : ∀ {H' : Hp}, Kt M0 H8 H' → Kt M0 H H' := fun z => (Kt.of k08).trans z
    refine tforR ?_
    simp only [tSeq, tIfS, tNext, tRet, tRetN, tAsg, tDrop, tPar, tCons, tNil, tCB, tVar, tC, tOp, rI, rI0, rU, tTest, tB, tTup, tLst, gName, tIf, tAnd, tOr, tNot, tAndV, tOrV, tNotV, tUn, tCall, tChain, tSl, tNoPart, tPart, tBM, tBM0, tDGet, sDPut, tAugS, ipI, tAug, rIxT, rIxL, rMulK, rLenK, rLstK, tTruK, gTup, gCons, gNil, rEq, rNe, scal, tNever, rMulK, rGcd, L2.start, List.map, List.length, List.replicate, List.cons_append, List.nil_append, List.append_nil, List.set, List.set_cons_zero, List.set_cons_succ, List.getElem?_cons_succ, List.getElem?_cons_zero, Option.some.injEq, List.cons.injEq, V.int.injEq, V.str.injEq, V.bl.injEq, V.ref.injEq, and_true, true_and, exists_eq_left, exists_eq_left', exists_eq_right, exists_eq_right', exists_eq, exists_and_left, exists_and_right, and_assoc, exists_false, false_and, and_false, or_false, false_or, reduceCtorEq, Nat.reduceAdd, Nat.reduceSub, List.append_assoc, eq_self, if_true, if_false, Bool.false_eq_true, decide_eq_true_eq, List.length_cons, List.length_nil]
    refine ⟨hv, Or.inl (sqL_mk ((k48.trans k89') _ _ hh4 fun z => z)), _, rfl, by omega, by omega, ?_⟩
    rw [show ((hv.length : Int) + 1).toNat = here.length + 1 by omega]
    refine for_range (n := here.length + 1) (lo := 0) (fun low σ H' => ∃ v11, BunI K B.T n b [some v, some (.ref a), some u, none, some (.ref rr), some (.int ((lessN others point : Nat) : Int)), some (.ref hh), some (.ref aw), some (.ref kn)] H8 p ol os (ascP (others ++ rest)) v11 (2 * low) σ H') ?_ ?_ ?_
    · exact ⟨none, [], [], none, none, none, rfl, Kt.of k89', tb9, hp9, ho9, do9, .nil, fun f hf => by simp at hf, by simp⟩
    · rintro low σ H' hlow ⟨v11, us, fs, v12, v13, v14, rfl, k', t', hp', ho', do', du', okf, nf⟩
      simp only [List.cons_append, List.nil_append, tSeq, tIfS, tNext, tRet, tRetN, tAsg, tDrop, tPar, tCons, tNil, tCB, tVar, tC, tOp, rI, rI0, rU, tTest, tB, tTup, tLst, gName, tIf, tAnd, tOr, tNot, tAndV, tOrV, tNotV, tUn, tCall, tChain, tSl, tNoPart, tPart, tBM, tBM0, tDGet, sDPut, tAugS, ipI, tAug, rIxT, rIxL, rMulK, rLenK, rLstK, tTruK, gTup, gCons, gNil, rEq, rNe, scal, tNever, rMulK, rGcd, L2.start, List.map, List.length, List.replicate, List.cons_append, List.nil_append, List.append_nil, List.set, List.set_cons_zero, List.set_cons_succ, List.getElem?_cons_succ, List.getElem?_cons_zero, Option.some.injEq, List.cons.injEq, V.int.injEq, V.str.injEq, V.bl.injEq, V.ref.injEq, and_true, true_and, exists_eq_left, exists_eq_left', exists_eq_right, exists_eq_right', exists_eq, exists_and_left, exists_and_right, and_assoc, exists_false, false_and, and_false, or_false, false_or, reduceCtorEq, Nat.reduceAdd, Nat.reduceSub, List.append_assoc, eq_self, if_true, if_false, Bool.false_eq_true, decide_eq_true_eq, List.length_cons, List.length_nil]
      have hz : (0 : Int) + (low : Nat) = (low : Nat) := by omega
      rw [hz]
      refine tforR ?_
      simp only [tSeq, tIfS, tNext, tRet, tRetN, tAsg, tDrop, tPar, tCons, tNil, tCB, tVar, tC, tOp, rI, rI0, rU, tTest, tB, tTup, tLst, gName, tIf, tAnd, tOr, tNot, tAndV, tOrV, tNotV, tUn, tCall, tChain, tSl, tNoPart, tPart, tBM, tBM0, tDGet, sDPut, tAugS, ipI, tAug, rIxT, rIxL, rMulK, rLenK, rLstK, tTruK, gTup, gCons, gNil, rEq, rNe, scal, tNever, rMulK, rGcd, L2.start, List.map, List.length, List.replicate, List.cons_append, List.nil_append, List.append_nil, List.set, List.set_cons_zero, List.set_cons_succ, List.getElem?_cons_succ, List.getElem?_cons_zero, Option.some.injEq, List.cons.injEq, V.int.injEq, V.str.injEq, V.bl.injEq, V.ref.injEq, and_true, true_and, exists_eq_left, exists_eq_left', exists_eq_right, exists_eq_right', exists_eq, exists_and_left, exists_and_right, and_assoc, exists_false, false_and, and_false, or_false, false_or, reduceCtorEq, Nat.reduceAdd, Nat.reduceSub, List.append_assoc, eq_self, if_true, if_false, Bool.false_eq_true, decide_eq_true_eq, List.length_cons, List.length_nil]
      have many : ((1 : Int) + if (low : Int) < (hv.length : Int) then 1 else 0).toNat = 1 + if low < here.length then 1 else 0 := by
        by_cases c : low < here.length
        · rw [if_pos c, if_pos (by omega)]; rfl
        · rw [if_neg c, if_neg (by omega)]; rfl
      refine ⟨hv, Or.inl (sqL_mk (((Kt.of k48).trans k').lst hh4 fun z => z)), _, rfl, by split <;> omega, by split <;> omega, ?_⟩
      rw [many]
      refine for_range (n := 1 + if low < here.length then 1 else 0) (lo := 0) (fun j σ H' => BunI K B.T n b [some v, some (.ref a), some u, none, some (.ref rr), some (.int ((lessN others point : Nat) : Int)), some (.ref hh), some (.ref aw), some (.ref kn)] H8 p ol os (ascP (others ++ rest)) (some (.int (low : Nat))) (2 * low + j) σ H') ?_ ?_ ?_
      · exact ⟨us, fs, v12, v13, v14, rfl, k', t', hp', ho', do', du', okf, by omega⟩
      · clear k' t' hp' ho' do' du' okf nf
        rintro j σ H' hj ⟨us, fs, v12, v13, v14, rfl, k', t', hp', ho', do', du', okf, nf⟩
        have hz : (0 : Int) + (j : Nat) = (j : Nat) := by omega
        simp only [List.cons_append, List.nil_append, tSeq, tIfS, tNext, tRet, tRetN, tAsg, tDrop, tPar, tCons, tNil, tCB, tVar, tC, tOp, rI, rI0, rU, tTest, tB, tTup, tLst, gName, tIf, tAnd, tOr, tNot, tAndV, tOrV, tNotV, tUn, tCall, tChain, tSl, tNoPart, tPart, tBM, tBM0, tDGet, sDPut, tAugS, ipI, tAug, rIxT, rIxL, rMulK, rLenK, rLstK, tTruK, gTup, gCons, gNil, rEq, rNe, scal, tNever, rMulK, rGcd, L2.start, List.map, List.length, List.replicate, List.cons_append, List.nil_append, List.append_nil, List.set, List.set_cons_zero, List.set_cons_succ, List.getElem?_cons_succ, List.getElem?_cons_zero, Option.some.injEq, List.cons.injEq, V.int.injEq, V.str.injEq, V.bl.injEq, V.ref.injEq, and_true, true_and, exists_eq_left, exists_eq_left', exists_eq_right, exists_eq_right', exists_eq, exists_and_left, exists_and_right, and_assoc, exists_false, false_and, and_false, or_false, false_or, reduceCtorEq, Nat.reduceAdd, Nat.reduceSub, List.append_assoc, eq_self, if_true, if_false, Bool.false_eq_true, decide_eq_true_eq, List.length_cons, List.length_nil]
        rw [hz]
        have lowj : low + j ≤ here.length ∧ j ≤ 1 := by split at hj <;> omega
        have gl : lessN others point ≤ others.length := less_le
        have skn : SqL K H' kn ks := k'.sqL (sqL_mk hk8)
        have dkn := pts_tk dk8 k'.tk0
        have kl := K0.len
        have kok := K0.ok.mono (show b ≤ 1000 by omega)
        refine ⟨kn, ks, ascP (others ++ [point]), lessN others point, low, rfl, skn, dkn, kok, by omega, by omega, by omega, fun s1 G1 w1 hs1 c1 hg1 e1 => ?_⟩
        refine ⟨by decide, fun p1 hp1 => ?_⟩
        refine slTo (sqL_mk upd_same) fun s2 hs2 => ?_
        have c3 : Kp M0 G1 (upd (upd G1 p1 (.lst [u])) s2 (.lst ([u].take j))) := (Kp.new hp1).trans (Kp.new hs2)
        have w1l : w1.length = low := by rw [dps_len e1]; simp [spreadP]
        have tl : ([u].take j).length ≤ 1 := by simp; omega
        refine ⟨s1, s2, w1, [u].take j, rfl, rfl, c3 _ _ hg1 fun z => z, upd_same, by rw [sizeLine_eq]; omega, fun s3 hs3 => ?_⟩
        have c4 : Kp M0 H' (upd (upd (upd G1 p1 (.lst [u])) s2 (.lst ([u].take j))) s3 (.lst (w1 ++ [u].take j))) := (c1.trans c3).trans (Kp.new hs3)
        have c14 : Kp M0 G1 (upd (upd (upd G1 p1 (.lst [u])) s2 (.lst ([u].take j))) s3 (.lst (w1 ++ [u].take j))) := c3.trans (Kp.new hs3)
        refine ⟨hv, Or.inl (((Kt.of k48).trans (k'.trans (Kt.of c4))).sqL (sqL_mk hh4)), ?_⟩
        rw [show ((lessN others point : Nat) : Int) + 1 = ((lessN others point + 1 : Nat) : Int) by omega, show (hv.length : Int) - (low : Nat) - (j : Nat) = ((here.length - low - j : Nat) : Int) by omega]
        refine ⟨kn, ks, ascP (others ++ [point]), lessN others point + 1, here.length - low - j, rfl, SqL.keep skn c4, pts_tk dkn (Tk.of0 c4), kok, by omega, by omega, by omega, fun s4 G5 w2 hs4 c5 hg5 e5 => ?_⟩
        have w2l : w2.length = here.length - low - j := by rw [dps_len e5]; simp [spreadP]
        refine ⟨s3, s4, _, w2, rfl, rfl, c5 _ _ upd_same fun z => z, hg5, by rw [sizeLine_eq, List.length_append]; omega, fun s5 hs5 => ?_⟩
        have c16 : Kp M0 G1 (upd G5 s5 (.lst (w1 ++ [u].take j ++ w2))) := (c14.trans c5).trans (Kp.new hs5)
        have c06 : Kp M0 H' (upd G5 s5 (.lst (w1 ++ [u].take j ++ w2))) := c1.trans c16
        have k06 : Kt M0 H8 (upd G5 s5 (.lst (w1 ++ [u].take j ++ w2))) := k'.trans (Kt.of c06)
        refine ⟨a, aw, oa, av, rfl, rfl, (k98 k06).lst sa fun z => z, ((Kt.of k58).trans k06).lst hw5 fun z => z, by rw [sizeLine_eq, dps_len da, dps_len dw5]; have := List.length_filter_le (fun x => decide (x ∉ here)) rest; simp only [List.length_map, restP]; omega, fun s6 hs6 => ?_⟩
        have al : av.length ≤ rest.length := by rw [dps_len dw5]; have := List.length_filter_le (fun x => decide (x ∉ here)) rest; simp only [List.length_map, restP]; omega
        have oal : oa.length = others.length := by rw [dps_len da, List.length_map]
        refine ⟨s6, s5, oa ++ av, w1 ++ [u].take j ++ w2, rfl, rfl, upd_same, by rw [upd_ne (ne_of_none upd_same hs6)]; exact upd_same, by rw [sizeLine_eq]; simp only [List.length_append]; omega, fun s7 hs7 => ?_⟩
        generalize hG8 : upd (upd (upd G5 s5 (.lst (w1 ++ [u].take j ++ w2))) s6 (.lst (oa ++ av))) s7 (.lst (oa ++ av ++ (w1 ++ [u].take j ++ w2))) = G8
        have hg8 : G8 s7 = some (.lst (oa ++ av ++ (w1 ++ [u].take j ++ w2))) := by rw [← hG8]; exact upd_same
        have c68 : Kp M0 (upd G5 s5 (.lst (w1 ++ [u].take j ++ w2))) G8 := by rw [← hG8]; exact (Kp.new hs6).trans (Kp.new hs7)
        have c58 : Kp M0 G5 G8 := (Kp.new hs5).trans c68
        have c18 := c16.trans c68
        have c08 := c06.trans c68
        have k08' : Kt M0 H8 G8 := k'.trans (Kt.of c08)
        obtain ⟨be1, be2, be3⟩ := bundle_ends (bo := bo) (low := low) (on := j) oo op spt np restok restnd restno (by omega) (by rw [hhere]; omega) lowj.2
        rw [hhere] at be1 be2 be3
        have dn8 : DpAll K G8 (oa ++ av ++ (w1 ++ [u].take j ++ w2)) ((others ++ restP here rest ++ newsP (ascP (others ++ [point])) point (lessN others point) low j (here.length - low - j)).map ptD) := by
          have du8 : DpAll K G8 ([u].take j) (([point].take j).map ptD) := by
            rw [List.map_take]
            exact dps_take j (dps_one (dp_tk (k98 k08').tk0 _ _ (ptD_tup _) du))
          unfold newsP
          simp only [List.map_append]
          exact dps_app (dps_app (pts_tk da (k98 k08').tk0) (pts_tk dw5 ((Kt.of k58).trans k08').tk0)) (dps_app (dps_app (pts_tk e1 (Tk.of0 c18)) du8) (pts_tk e5 (Tk.of0 c58)))
        have rl2 : rest.length ≤ vw x := by omega
        refine ⟨s7, _, _, rfl, sqL_mk hg8, dn8, fun y hy => ⟨(be1 y hy).1, (be1 y hy).2.mono (by omega)⟩, by rw [be3]; omega, fun ed G9 ew hed c9 hg9 e9 => ?_⟩
        have c09 := c08.trans c9
        have k09 : Kt M0 H8 G9 := k'.trans (Kt.of c09)
        have hp9' := c09 _ _ hp' fun z => z
        have aok : PtsOk (max (gB b) bo) (ascP (others ++ restP here rest ++ newsP (ascP (others ++ [point])) point (lessN others point) low j (here.length - low - j))) := asc_ok be1
        have alen := asc_len be1 be2
        rw [be3] at alen
        generalize ascP (others ++ restP here rest ++ newsP (ascP (others ++ [point])) point (lessN others point) low j (here.length - low - j)) = eds at e9 aok alen
        have ook : ∀ y ∈ others ++ rest, PtOk y ∧ Sz (max b bo) y := fun y hy => by
          rcases List.mem_append.mp hy with z | z
          · exact ⟨oo.ok y z, (oo.sz y z).mono (Nat.le_max_left _ _)⟩
          · exact ⟨(restok y z).1, (restok y z).2.mono (Nat.le_max_right _ _)⟩
        have ond : (others ++ rest).Nodup := List.nodup_append.mpr ⟨oo.asc.nodup, restnd, fun y hy z hz e => restno z hz (e ▸ hy)⟩
        have olok : PtsOk 4000 (ascP (others ++ rest)) := (asc_ok ook).mono (by omega)
        have ollen := asc_len ook ond
        rw [List.length_append] at ollen
        have ins : ∀ y ∈ supV x, y ∈ ascP (others ++ rest) := fun y hy => (asc_mem ook y).mpr (List.mem_append.mpr (by
          rcases rest_in (ps := others) hy with z | z
          · exact Or.inl z
          · exact Or.inr (hrest ▸ z)))
        have gbo : gN n bo ≤ 1900 := Nat.le_trans (gN_mono n (Nat.le_max_right (gB b) bo)) hg
        have ggb : gN n (gB b) ≤ 1900 := Nat.le_trans (gN_mono n (Nat.le_max_left (gB b) bo)) hg
        refine ⟨Or.inl ⟨rfl, us, sqL_mk hp9'⟩, ?_⟩
        refine ⟨v, ol, ed, x, os, ew, _, _, bo, max (gB b) bo, rfl, dv_tk dx (k98 k09).tk0, ox, gbo, hw, c09 _ _ ho' fun z => z, hg9, pts_tk do' (Tk.of0 c09), e9, olok, aok, hg, by omega, by omega, ins, tabs_kp t' c09, fun y G10 k10 t10 d10 => ?_⟩
        obtain ⟨mo1, mo2⟩ := moved_ok (n := n) ox olok aok (by omega) ins hw
        have k010 := k09.trans k10
        refine ⟨y, kn, _, ks, ascP (others ++ [point]), max (gB b) bo, b, rfl, d10, mo1, hg, by omega, k010.lst hk8 fun z => z, pts_tk dk8 k010.tk0, K0.ok, ggb, by omega, t10, fun y2 G11 k11 t11 d11 => ?_⟩
        obtain ⟨po1, po2⟩ := placed_ok (points := ascP (others ++ [point])) mo1 K0.ok (by omega)
        have k1011 := k10.trans k11
        have hp11 := k1011.lst hp9' fun z => z
        have ho11 := k1011.lst (c09 _ _ ho' fun z => z) fun z => z
        have npo : ol ≠ p := fun e => by rw [e] at hol; rw [upd_ne (ne_of_none upd_same hq3), upd_same] at hol; cases hol
        have usl : us.length = fs.length := by rw [dps_len du', List.length_map]
        have tk11 : Tk H' (upd G11 p (.lst (us ++ [y2]))) := ((Tk.of0 c09).trans k1011.tk0).trans (Tk.lst hp11)
        refine ⟨p, us, y2, rfl, rfl, hp11, by rw [sizeLine_eq]; omega, us ++ [y2], fs ++ [placedV (movedV x (ascP (others ++ rest)) eds) (ascP (others ++ [point]))], _, _, _, rfl, (k09.trans k1011).at hp, tabs_lst t11 hp11, upd_same, by rw [upd_ne npo]; exact ho11, pts_tk do' tk11, ?_, fun f hf => ?_, by rw [List.length_append, List.length_singleton]; omega⟩
        · rw [List.map_append]
          exact dps_app (dvs_tk du' tk11) (dps_one (dv_tk d11 (Tk.lst hp11)))
        · rcases List.mem_append.mp hf with z | z
          · exact okf f z
          · rw [List.mem_singleton.mp z]; exact po1
      · rintro σ H' ⟨us, fs, v12, v13, v14, rfl, k', t', hp', ho', do', du', okf, nf⟩
        refine ⟨_, us, fs, v12, v13, v14, rfl, k', t', hp', ho', do', du', okf, ?_⟩
        split at nf <;> omega
    · rintro σ H' ⟨v11, us, fs, v12, v13, v14, rfl, k', t', hp', ho', do', du', okf, nf⟩
      exact ⟨_, rfl, k p H' us fs (k98 k') t' hp' du' okf (by omega)⟩
end
end G
set_option Elab.async false
set_option linter.all false
set_option maxRecDepth 100000
/-! max(.., default=..) of a list of ints -/
namespace G
open PySem L2 LamX PyProof.Rows
open Sem (wp)
section
variable {prog : Program} {w : World} {A : Around} {R : Result → Shared → Prop} {I : Addr} {fp wr : List Addr} {n : Nat} {P : Nat → Value → Prop} {St : Nat → Heap → Prop}
/-- one turn's beginning: what is read, then the next item -/
theorem maxD_open {S : Addr} {kw : List (Str × Value)} (bt : Nat → Nat → Bool) (W : Walks prog w A.in1 I fp wr n P St) (hcmp : CmpOf prog w A.in1 .Gt P bt) (hSf : S ∉ fp) :
    ∀ (k j : Nat) (s : Shared) (vb : Value) (c : Nat), n - (j + 1) = k → j + 1 ≤ n → St (j + 1) s.heap → P (argBest bt j) vb → s.heap.get? S = some { cls := .type "list", dict := none, data := .seq #[vb, vb] c, slots := #[] } →
    (∀ v h' tk, P (argBest bt (n - 1)) v → (∀ b o, b ∉ wr → b ≠ S → s.heap.get? b = some o → h'.get? b = some o) → R (.ok (.ret v)) { s with heap := h', toks := tk }) →
    codeAny (model prog w) A (.builtin "max.loop" ⟨[.ref I, .none, .ref S], kw⟩) R s := by
  have nS : S ∉ wr := fun h => hSf (W.sub _ h)
  have nm : (toString "max" ++ toString ".loop" : String) = "max.loop" := by decide
  intro k
  induction k with
  | zero =>
    intro j s vb c hk hj st pb gS fin
    have jn : j + 1 = n := by omega
    refine codeAny_builtin F.entry_max_loop ?_
    rw [Around.under_plainId F.plain_max_loop _]
    refine wpAny_bind (wpAny_seqItems gS rfl ?_)
    refine wpAny_bind (wpAny_tryCatch (W.done s _ _ (jn ▸ st) fun h1 tk keep => ?_))
    refine wpAny_bind (wpAny_updateSeq (keep S _ nS gS) rfl (wpAny_bind (wpAny_letGo (wpAny_pure ?_))))
    refine fin vb _ tk (by rw [← jn]; exact pb) fun b o b1 b2 e => ?_
    rw [Heap.get?_update_other _ _ (Ne.symm b2)]
    exact keep b o b1 e
  | succ k ih =>
    intro j s vb c hk hj st pb gS fin
    have jn : j + 1 < n := by omega
    refine codeAny_builtin F.entry_max_loop ?_
    rw [Around.under_plainId F.plain_max_loop _]
    refine wpAny_bind (wpAny_seqItems gS rfl ?_)
    refine wpAny_bind (wpAny_tryCatch (W.item (j + 1) s _ _ jn st fun v h1 tk pv st1 keep => ?_))
    have gS1 := keep S _ nS gS
    refine wpAny_bind (wpAny_pure ?_)
    refine wpAny_bind (wpAny_tryCatch (wpAny_holding (wpAny_bind (hcmp (j + 1) (argBest bt j) v vb _ _ _ pv pb ?_))))
    refine wpAny_bind (wpAny_holding (wpAny_truthy_bool ?_))
    refine wpAny_bind (wpAny_letGo (wpAny_pure ?_))
    cases hb : bt (j + 1) (argBest bt j) with
    | true =>
      simp only [if_true]
      refine wpAny_bind (wpAny_updateSeq gS1 rfl (wpAny_bind (wpAny_letGo ?_)))
      rw [nm]
      refine wpAny_pure ⟨plainId_quiet F.plain_max_loop _, ih (j + 1) _ v _ (by omega) jn (W.frame _ _ _ st1 fun b bf o e => ?_) (by simp only [argBest, hb, if_true]; exact pv) (Heap.get?_update_self _ gS1 rfl) fun v2 h2 tk2 p2 keep2 => ?_⟩
      · rw [Heap.get?_update_other _ _ (fun z : S = b => hSf (by rw [z]; exact bf))]; exact e
      · refine fin v2 h2 tk2 p2 fun b o b1 b2 e => keep2 b o b1 b2 ?_
        show Heap.get? _ b = some o
        rw [Heap.get?_update_other _ _ (Ne.symm b2)]
        exact keep b o b1 e
    | false =>
      simp only [Bool.false_eq_true, if_false]
      refine wpAny_bind (wpAny_letGo ?_)
      rw [nm]
      refine wpAny_pure ⟨plainId_quiet F.plain_max_loop _, ih (j + 1) _ vb c (by omega) jn st1 (by simp only [argBest, hb, Bool.false_eq_true, if_false]; exact pb) gS1 fun v2 h2 tk2 p2 keep2 => ?_⟩
      exact fin v2 h2 tk2 p2 fun b o b1 b2 e => keep2 b o b1 b2 (keep b o b1 e)
end
section
variable {prog : Program} {w : World} {A : Around} {E : Value → Shared → Prop} {s : Shared} {l : Addr} {its : List Value} {ns : List Int} {Q : Value → Shared → Prop}
theorem max_argsD (a v : Value) : argsOk "max" ⟨[a], [(Str.ofString "default", v)]⟩ := by unfold argsOk; kernel_rfl
theorem max_rawD (hh : A.handled = none) (hl : s.heap.IsList l its.toArray) (hi : IntsAre its ns) (d : Value)
    (h0 : ns = [] → ∀ h' tk, (∀ b o, s.heap.get? b = some o → h'.get? b = some o) → Q d { s with heap := h', toks := tk })
    (h : 0 < ns.length → ∀ h' tk M t', (∀ b o, s.heap.get? b = some o → h'.get? b = some o) → M ∈ ns → (∀ a, a ∈ ns → a ≤ M) → Q (.int M t') { s with heap := h', toks := tk }) :
    wpAny (model prog w) A (call (.builtin "max") [.ref l] [(Str.ofString "default", d)]) Q E s := by
  obtain ⟨xs, e⟩ := hi.allInts.items
  have hn : numsOf (intItems xs).toList = ns := by rw [← e]; exact hi.numsOf
  rw [nums_intItems] at hn
  subst hn
  rw [e] at hl
  have nm : (toString "max" ++ toString ".loop" : String) = "max.loop" := by decide
  refine PyProof.Rows.kmk_tree PySem.F.kind_max PySem.F.plain_max PySem.F.entry_max (max_argsD _ _) ?_
  show wpAny _ A.in1 (Builtin.Builtins.bindParams "max" ["key", "default"] 0 ⟨[], [(Str.ofString "default", d)]⟩ >>= _) _ _ s
  refine wpAny_bind (wpAny_of_eq (show Builtin.Builtins.bindParams "max" ["key", "default"] 0 ⟨[], [(Str.ofString "default", d)]⟩ = pure [none, some d] from rfl) ?_)
  refine wpAny_bind (wpAny_pure ?_)
  refine wpAny_bind (iter_intList hl fun s2 e2 st hfp hlI => ?_)
  refine wpAny_bind (wpAny_newObj_type ?_)
  have nSf : s2.heap.objs.size ∉ [s.heap.objs.size, l] := fun hm => Nat.lt_irrefl _ (hfp _ hm)
  rw [nm]
  subst e2
  have W := Walks.list (prog := prog) (w := w) (A := A.in1) hh s.heap.objs.size l hlI (intItems xs)
  have sz : (intItems xs).size = xs.size := by simp [intItems]
  have st3 := W.frame 0 _ _ st fun b _ o e => Heap.get?_push_of_some ({ cls := .type "list", dict := none, data := .seq #[] 0, slots := #[] } : Obj) e
  have g0 : ((s.heap.push { cls := .type "list_iterator", data := .fields #[.ref l, .int 0 0] }).push { cls := .type "list", dict := none, data := .seq #[] 0, slots := #[] }).get? (s.heap.push { cls := .type "list_iterator", data := .fields #[.ref l, .int 0 0] }).objs.size = some { cls := .type "list", dict := none, data := .seq #[] 0, slots := #[] } := Heap.get?_push_size _ rfl
  have old : ∀ b o, s.heap.get? b = some o → b ∉ [s.heap.objs.size] := fun b o e m => by
    have := Heap.lt_size e
    rw [List.mem_singleton.mp m] at this
    exact Nat.lt_irrefl _ this
  have up : ∀ b o, s.heap.get? b = some o → (s.heap.push { cls := .type "list_iterator", data := .fields #[.ref l, .int 0 0] }).get? b = some o := fun b o e => Heap.get?_push_of_some _ e
  rcases Nat.eq_zero_or_pos xs.size with z | z
  · refine wpAny_pure ⟨plainId_quiet F.plain_max_loop _, codeAny_builtin F.entry_max_loop ?_⟩
    rw [Around.under_plainId F.plain_max_loop _]
    refine wpAny_bind (wpAny_seqItems (Heap.get?_push_size _ rfl) rfl ?_)
    refine wpAny_bind (wpAny_tryCatch (W.done _ _ _ (by rw [sz, z]; exact st3) fun h1 tk keep => ?_))
    exact wpAny_bind (wpAny_rule (wpAny_pure (h0 (List.length_eq_zero_iff.mp (by simpa using z)) h1 tk fun b o e => keep b o (old b o e) (Heap.get?_push_of_some _ (up b o e)))))
  · refine wpAny_pure ⟨plainId_quiet F.plain_max_loop _, codeAny_builtin F.entry_max_loop ?_⟩
    rw [Around.under_plainId F.plain_max_loop _]
    refine wpAny_bind (wpAny_seqItems (Heap.get?_push_size _ rfl) rfl ?_)
    refine wpAny_bind (wpAny_tryCatch (W.item 0 _ _ _ (by rw [sz]; exact z) st3 fun v h1 tk pv st1 keep => ?_))
    refine wpAny_bind (wpAny_pure ?_)
    have gS := keep _ _ (fun m => nSf (by rw [List.mem_singleton.mp m]; simp)) g0
    refine wpAny_bind (wpAny_updateSeq gS rfl ?_)
    rw [nm]
    refine wpAny_pure ⟨plainId_quiet F.plain_max_loop _, maxD_open (fun i j => decide (numAt xs i > numAt xs j)) W (CmpOf.ints_gt (numAt xs) (fun _ _ => intItems_at)) nSf _ 0 _ v _ rfl (by rw [sz]; exact z) (W.frame _ _ _ st1 fun b bf o e => ?_) pv (Heap.get?_update_self _ gS rfl) fun v2 h2 tk2 p2 keep2 => ?_⟩
    · show Heap.get? _ b = some o
      rw [Heap.get?_update_other _ _ (fun z => nSf (by rw [z]; exact bf))]; exact e
    · obtain ⟨t, rfl⟩ := intItems_at p2
      obtain ⟨h3, h4⟩ := argBest_gt (numAt xs) (xs.size - 1)
      rw [sz]
      refine h (by simpa using z) h2 tk2 _ t (fun b o e => keep2 b o (old b o e) (fun q => ?_) ?_) ?_ fun a ha => ?_
      · have := Heap.lt_size (up b o e)
        rw [q] at this
        exact Nat.lt_irrefl _ this
      · show Heap.get? _ b = some o
        rw [Heap.get?_update_other _ _ (fun q => by have := Heap.lt_size (up b o e); rw [← q] at this; exact Nat.lt_irrefl _ this)]
        exact keep b o (old b o e) (Heap.get?_push_of_some _ (up b o e))
      · rw [numAt_eq]; exact PySem.getD_mem (by rw [List.length_map, Array.length_toList]; omega)
      · obtain ⟨j, hj, rfl⟩ := mem_getD ha
        rw [List.length_map, Array.length_toList] at hj
        rw [← numAt_eq]; exact h4 j (by omega)
end
section
variable {X : Cx}
def rMaxD (K : PySem.W.Frag) : V → V → Hp → VK → Prop := fun v d H Q => ∃ (a : Addr) (ns : List Int), v = .ref a ∧ SqL K H a (ns.map V.int) ∧ (ns = [] → Q d H) ∧ (0 < ns.length → ∀ m, m ∈ ns → (∀ y, y ∈ ns → y ≤ m) → Q (.int m) H)
def tMaxD (K : PySem.W.Frag) (te : TE) (i : Int) : TE := fun σ H Q => te σ H fun v H1 => rMaxD K v (.int i) H1 Q
theorem pe_maxD {e : Expr} {te : TE} {i : Int} {kn kpos p pos : Pos} {kk : Nat} (hg : Gl X "max") (hm : X.mg "max" = none) (ha : PE X e te) (hc : X.calm = true)
    (hs : starEach [e] X.env = (false, eval e X.env) :: starEach [] X.env := by rfl) (he : backTo pos (starEach [e] X.env) = (false, eval e X.env) :: backTo pos (starEach [] X.env) := by rfl) (hpl : (backTo pos (starEach [e] X.env)).any (·.1) = false := by rfl) :
    PE X (.Call (.Name "max" p) [e] [⟨some "default", .Constant (.int i) kk kn, kpos⟩] pos) (tMaxD X.K te i) := by
  refine ⟨fun pins s σ H Q I h => ?_⟩
  refine wpAny_Call_Name_kw (ld_blt I hg hm (by rfl) ?_ (by decide) (by decide))
  refine PyProof.Rows.callWith_kw (thn ((pa_cons (hs := hs) ha pa_nil).run pos pins s σ H (oneV fun v H1 => rMaxD X.K v (.int i) H1 Q) I h) fun us s1 ⟨vs, H1, I1, r1, q0⟩ => ?_) he hpl
  obtain ⟨v, rfl, q0⟩ : ∃ v, vs = [v] ∧ rMaxD X.K v (.int i) H1 Q := by
    match vs, q0 with
    | [v], z => exact ⟨v, rfl, z⟩
  obtain ⟨a, ns, rfl, hq, q1, q2⟩ := q0
  obtain ⟨u, rfl, ru⟩ : ∃ u, us = [u] ∧ RelV (.ref a) u := by
    cases r1 with
    | cons r1 r2 => cases r2; exact ⟨_, rfl, r1⟩
  obtain rfl : u = Value.ref a := ru
  refine PyProof.Rows.kws_cons (thn (pe_int.run pins s1 σ H1 (fun v H2 => v = .int i ∧ rMaxD X.K (.ref a) (.int i) H2 Q) I1 ⟨rfl, a, ns, rfl, hq, q1, q2⟩) fun uv s2 ⟨v, H2, I2, rv, ev, b, ms, eb, hq2, q3, q4⟩ => ?_)
  cases eb
  subst ev
  refine PyProof.Rows.kws_nil ?_
  obtain ⟨its, rl, hl, _⟩ := I2.list hq2
  show wpAny (model X.prog X.w) X.A (call (.builtin "max") [.ref a] [(Str.ofString "default", uv)]) (EP X pins σ Q) X.xe s2
  exact max_rawD (I2.ok.hd hc) hl.isList rl.ints uv (fun e h' tk hk => ⟨.int _, H2, I2.kept hk, rv, q3 e⟩) fun e h' tk m t' hk h1 h2 => ⟨.int _, H2, I2.kept hk, ⟨_, rfl⟩, q4 e m h1 h2⟩
end
end G
set_option Elab.async false
set_option linter.all false
set_option maxRecDepth 100000
set_option maxHeartbeats 4000000
set_option exponentiation.threshold 10000
namespace G
open PySem L2 LamX NdefX
section
variable {P : Program} {w : World} {K : PySem.W.Frag} {mg : Str → Option Value} {base : Heap}
theorem ok_is_before (W : Ds K mg) : FnOk P w K mg base CX0 1 W.f_is_before W.fd_is_before P_is_before (sp_is_before K) := by
  refine W.D_is_before.F.ok sc_is_before (fun vs H Q E h => ?len) (fun cdv A outer s H vs Q E hr h => ?body)
  case len =>
    obtain ⟨v, u, x, y, rfl, _⟩ := h
    rfl
  case body =>
    obtain ⟨v, u, x, y, rfl, hx, hy, sx, sy, k⟩ := h
    obtain ⟨a, rfl, ha⟩ := pt_of hx
    obtain ⟨b, rfl, hb⟩ := pt_of hy
    have nd := sc_is_before.nd
    have hu := hu_of hr
    have hu64 := hr.units
    have hu65 := hu65_of hr
    refine ⟨_, (pss_one (ps_ret (pe_cmpR op_lt (pe_op op_mulK (pe_ix (k_ixT K) (pv 0) pe_int (fun _ _ => rfl)) (pe_ix (k_ixT K) (pv 1) pe_int (fun _ _ => rfl))) (pe_op op_mulK (pe_ix (k_ixT K) (pv 1) pe_int (fun _ _ => rfl)) (pe_ix (k_ixT K) (pv 0) pe_int (fun _ _ => rfl))) (nomark _)))), ?_⟩
    simp only [tSeq, tIfS, tNext, tRet, tRetN, tAsg, tDrop, tPar, tCons, tNil, tCB, tVar, tC, tOp, rI, rI0, rU, tTest, tB, tTup, tLst, gName, tIf, tAnd, tOr, tNot, tAndV, tOrV, tNotV, tUn, tCall, tChain, tSl, tNoPart, tPart, tBM, tBM0, tDGet, sDPut, tAugS, ipI, tAug, rIxT, rIxL, rMulK, rLenK, rLstK, tTruK, gTup, gCons, gNil, rEq, rNe, scal, tNever, rMulK, rGcd, L2.start, List.map, List.length, List.replicate, List.cons_append, List.nil_append, List.append_nil, List.set, List.set_cons_zero, List.set_cons_succ, List.getElem?_cons_succ, List.getElem?_cons_zero, Option.some.injEq, List.cons.injEq, V.int.injEq, V.str.injEq, V.bl.injEq, V.ref.injEq, and_true, true_and, exists_eq_left, exists_eq_left', exists_eq_right, exists_eq_right', exists_eq, exists_and_left, exists_and_right, and_assoc, exists_false, false_and, and_false, or_false, false_or, reduceCtorEq, Nat.reduceAdd, Nat.reduceSub, List.append_assoc, eq_self, if_true, if_false, Bool.false_eq_true, decide_eq_true_eq, List.length_cons, List.length_nil]
    refine ⟨_, ha, _, rfl, _, hb, _, rfl, _, rfl, _, rfl, mulOk_w sx.1 sy.2 (by omega) (by omega) (by omega), _, hb, _, rfl, _, ha, _, rfl, _, rfl, _, rfl, mulOk_w sy.1 sx.2 (by omega) (by omega) (by omega), k⟩
theorem seq_ix {K : PySem.W.Frag} {H : Hp} {a : Addr} {vs : List V} {i : Nat} {v : V} {Q : VK} (h : SqL K H a vs ∨ SqT K H a vs) (hi : vs[i]? = some v) (q : Q v H) : rIx K (.ref a) (.int (i : Nat)) H Q := by
  rcases h with h | h
  · exact Or.inl ⟨a, vs, _, v, rfl, rfl, h, atI_nat hi, q⟩
  · exact Or.inr (Or.inl ⟨a, vs, _, v, rfl, rfl, h, atI_nat hi, q⟩)
def sp_code_of (K : PySem.W.Frag) : Sp := fun vs H Q _ => ∃ (a : Addr) (u : V) (ws : List V) (l : List Pt) (y : Pt), vs = [.ref a, u] ∧ (SqL K H a ws ∨ SqT K H a ws) ∧ DpAll K H ws (l.map ptD) ∧ Dp K H u (ptD y) ∧ PtsOk 4000 l ∧ PtOk y ∧ Sz 4000 y ∧ l.length < 1000000 ∧
  Q (.int (codeP l y : Nat)) H
theorem ok_code_of (W : Ds K mg) : FnOk P w K mg base CX0 2 W.f_code_of W.fd_code_of P_code_of (sp_code_of K) := by
  refine W.D_code_of.F.ok sc_code_of (fun vs H Q E h => ?len) (fun cdv A outer s H vs Q E hr h => ?body)
  case len =>
    obtain ⟨a, u, ws, l, y, rfl, _⟩ := h
    rfl
  case body =>
    obtain ⟨a, u, ws, l, y, rfl, hseq, hws, hy, hl, oy, sy, hlen, k⟩ := h
    have nd := sc_code_of.nd
    have hu := hu_of hr
    have hu64 := hr.units
    have hu65 := hu65_of hr
    refine ⟨_, (pss_cons (ps_par (i := 2) (j := 3) rfl nd rfl rfl (by decide) rfl rfl (pa_cons pe_int (pa_cons (pe_callB (c_len K) (by rfl) W.T.b_len (by decide +kernel) (pa_cons (pv 0) pa_nil)) pa_nil)) (by rfl))
  (pss_cons (ps_while PassesOwn.never (pt_cmpR op_lt (pv 2) (pv 3) (nomark _))
     (pss_cons (ps_set (i := 4) nd rfl (by first | exact Or.inl rfl | exact Or.inr rfl) (pe_op op_fdivW (pe_op op_add (pv 2) (pv 3)) pe_int))
      (pss_one (ps_if (pt_val (pe_call (ok_is_before W) (hr.mono (by first | decide | omega)) rfl W.D_is_before.g W.D_is_before.F.kp W.D_is_before.b .nil pass0 (pa_cons (pe_ix (k_ixS K) (pv 0) (pv 4) (fun _ _ => rfl)) (pa_cons (pv 1) pa_nil))))
         (pss_one (ps_set (i := 2) nd rfl (by first | exact Or.inl rfl | exact Or.inr rfl) (pe_op op_add (pv 4) pe_int)))
         (pss_one (ps_set (i := 3) nd rfl (by first | exact Or.inl rfl | exact Or.inr rfl) (pv 4)))))))
  (pss_cons (ps_if (PW.pt (pw_and (pt_cmpR op_lt (pv 2) (pe_callB (c_len K) (by rfl) W.T.b_len (by decide +kernel) (pa_cons (pv 0) pa_nil)) (nomark _)) (pw_and1 (pt_cmpR (k_eqD K hu64) (pe_ix (k_ixS K) (pv 0) (pv 2) (fun _ _ => rfl)) (pv 1) (nomark _)))))
     (pss_one (ps_ret (pe_op op_add (pe_op op_mulK pe_int (pv 2)) pe_int)))
     pss_nil)
  (pss_one (ps_ret (pe_op op_mulK pe_int (pv 2))))))), ?_⟩
    simp only [tSeq, tIfS, tNext, tRet, tRetN, tAsg, tDrop, tPar, tCons, tNil, tCB, tVar, tC, tOp, rI, rI0, rU, tTest, tB, tTup, tLst, gName, tIf, tAnd, tOr, tNot, tAndV, tOrV, tNotV, tUn, tCall, tChain, tSl, tNoPart, tPart, tBM, tBM0, tDGet, sDPut, tAugS, ipI, tAug, rIxT, rIxL, rMulK, rLenK, rLstK, tTruK, gTup, gCons, gNil, rEq, rNe, scal, tNever, rMulK, rGcd, L2.start, List.map, List.length, List.replicate, List.cons_append, List.nil_append, List.append_nil, List.set, List.set_cons_zero, List.set_cons_succ, List.getElem?_cons_succ, List.getElem?_cons_zero, Option.some.injEq, List.cons.injEq, V.int.injEq, V.str.injEq, V.bl.injEq, V.ref.injEq, and_true, true_and, exists_eq_left, exists_eq_left', exists_eq_right, exists_eq_right', exists_eq, exists_and_left, exists_and_right, and_assoc, exists_false, false_and, and_false, or_false, false_or, reduceCtorEq, Nat.reduceAdd, Nat.reduceSub, List.append_assoc, eq_self, if_true, if_false, Bool.false_eq_true, decide_eq_true_eq, List.length_cons, List.length_nil]
    have wlen : ws.length = l.length := by rw [dps_len hws, List.length_map]
    have item : ∀ (i : Nat) (x : Pt), l[i]? = some x → ∃ v, ws[i]? = some v ∧ Dp K H v (ptD x) := fun i x hx => dps_get' hws (by rw [List.getElem?_map, hx]; rfl)
    refine ⟨ws, hseq, ?_⟩
    refine while_at (fun σ H' => H' = H ∧ ∃ (lo hi : Nat) (m : Option V), σ = [some (.ref a), some u, some (.int lo), some (.int hi), m] ∧ lo ≤ hi ∧ hi ≤ l.length ∧ (∀ i x, i < lo → l[i]? = some x → ltP x y) ∧ (∀ i x, hi ≤ i → l[i]? = some x → ¬ ltP x y))
      (fun σ _ => match σ with | [_, _, some (.int lo), some (.int hi), _] => (hi - lo).toNat | _ => 0) ⟨rfl, 0, ws.length, none, rfl, by omega, by omega, fun i x h => by omega, fun i x h e => ?_⟩ ?_
    · have := (List.getElem?_eq_some_iff.mp e).1
      omega
    rintro σ H' ⟨rfl, lo, hi, m, rfl, h1, h2, h3, h4⟩
    simp only [tSeq, tIfS, tNext, tRet, tRetN, tAsg, tDrop, tPar, tCons, tNil, tCB, tVar, tC, tOp, rI, rI0, rU, tTest, tB, tTup, tLst, gName, tIf, tAnd, tOr, tNot, tAndV, tOrV, tNotV, tUn, tCall, tChain, tSl, tNoPart, tPart, tBM, tBM0, tDGet, sDPut, tAugS, ipI, tAug, rIxT, rIxL, rMulK, rLenK, rLstK, tTruK, gTup, gCons, gNil, rEq, rNe, scal, tNever, rMulK, rGcd, L2.start, List.map, List.length, List.replicate, List.cons_append, List.nil_append, List.append_nil, List.set, List.set_cons_zero, List.set_cons_succ, List.getElem?_cons_succ, List.getElem?_cons_zero, Option.some.injEq, List.cons.injEq, V.int.injEq, V.str.injEq, V.bl.injEq, V.ref.injEq, and_true, true_and, exists_eq_left, exists_eq_left', exists_eq_right, exists_eq_right', exists_eq, exists_and_left, exists_and_right, and_assoc, exists_false, false_and, and_false, or_false, false_or, reduceCtorEq, Nat.reduceAdd, Nat.reduceSub, List.append_assoc, eq_self, if_true, if_false, Bool.false_eq_true, decide_eq_true_eq, List.length_cons, List.length_nil]
    refine ite2 (fun c => ?_) (fun c => ?_)
    · refine ⟨_, fun _ _ h => h, wide_div (b := 2) (by omega) (by decide) (by omega) (by omega), ?_⟩
      have hm : ((lo : Int) + (hi : Int)) / 2 = (((lo + hi) / 2 : Nat) : Int) := by omega
      rw [hm]
      have hmid : (lo + hi) / 2 < l.length := by omega
      have hx : l[(lo + hi) / 2]? = some l[(lo + hi) / 2] := List.getElem?_eq_getElem hmid
      obtain ⟨v, hv, dv⟩ := item _ _ hx
      have hmem := List.mem_of_getElem? hx
      refine seq_ix hseq hv ?_
      refine ⟨v, u, _, y, rfl, dv, hy, hl.sz _ hmem, sy, _, rfl, ?_⟩
      refine ite2 (fun g => ?_) (fun g => ?_)
      · have g' : ltP (l[(lo + hi) / 2]) y := by simpa using g
        refine ⟨rfl, ⟨(lo + hi) / 2 + 1, hi, ⟨some (.int (((lo + hi) / 2 : Nat) : Int)), rfl⟩, by omega, h2, fun i x hi' e => ?_, h4⟩, ?_⟩
        · by_cases q : i = (lo + hi) / 2
          · subst q; rw [hx] at e; cases e; exact g'
          · have hl' : i < (lo + hi) / 2 := by omega
            exact lt_trans (hl.ok _ (List.mem_of_getElem? e)).pos (hl.ok _ hmem).pos oy.pos (asc_get hl.asc hl' e hx) g'
        · show ((hi : Int) - ((((lo + hi) / 2 : Nat) : Int) + 1)).toNat < ((hi : Int) - (lo : Int)).toNat
          omega
      · have g' : ¬ ltP (l[(lo + hi) / 2]) y := by simpa using g
        refine ⟨rfl, ⟨lo, (lo + hi) / 2, ⟨some (.int (((lo + hi) / 2 : Nat) : Int)), rfl⟩, by omega, by omega, h3, fun i x hi' e => ?_⟩, ?_⟩
        · by_cases q : i = (lo + hi) / 2
          · subst q; rw [hx] at e; cases e; exact g'
          · have hl' : (lo + hi) / 2 < i := by omega
            intro z
            exact g' (lt_trans (hl.ok _ hmem).pos (hl.ok _ (List.mem_of_getElem? e)).pos oy.pos (asc_get hl.asc hl' hx e) z)
        · show ((((lo + hi) / 2 : Nat) : Int) - (lo : Int)).toNat < ((hi : Int) - (lo : Int)).toNat
          omega
    · have e0 : lo = hi := by omega
      subst e0
      have en : lessN l y = lo := lessN_eq h2 h3 h4
      have ec : ¬ l[lo]? = some y → codeP l y = 2 * lo := fun z => by unfold codeP; rw [en, if_neg z]
      refine ⟨ws, hseq, ?_⟩
      have q2 : Q (.int (2 * (lo : Int))) H' ∨ l[lo]? = some y := by
        by_cases z : l[lo]? = some y
        · exact Or.inr z
        · rw [ec z] at k
          exact Or.inl (by simpa using k)
      refine ite2 (fun g => ?_) (fun g => ?_)
      · have hlt : lo < l.length := by omega
        have hx : l[lo]? = some l[lo] := List.getElem?_eq_getElem hlt
        obtain ⟨v, hv, dv⟩ := item _ _ hx
        refine seq_ix hseq hv ⟨_, _, dv.up, hy.up, ptD_shaped _, ptD_shaped _, ?_⟩
        rw [ptD_eqv]
        refine ⟨_, rfl, ite2 (fun g2 => ?_) (fun g2 => ?_)⟩
        · have g3 : l[lo] = y := by simpa using g2
          refine ⟨mulOk_l (by omega) (by omega), ?_⟩
          have : codeP l y = 2 * lo + 1 := by unfold codeP; rw [en, if_pos (by rw [hx, g3])]
          rw [this] at k
          simpa using k
        · have g3 : ¬ l[lo] = y := by simpa using g2
          refine ⟨mulOk_l (by omega) (by omega), ?_⟩
          rcases q2 with q | q
          · exact q
          · rw [hx] at q; cases q; exact absurd rfl g3
      · refine ⟨mulOk_l (by omega) (by omega), ?_⟩
        rcases q2 with q | q
        · exact q
        · have := (List.getElem?_eq_some_iff.mp q).1
          omega

/-! ### merged_points -/
def sp_merged_points (K : PySem.W.Frag) : Sp := fun vs H Q _ => ∃ (a c : Addr) (aw cw : List V) (l m : List Pt) (b : Nat), vs = [.ref a, .ref c] ∧ SqT K H a aw ∧ SqT K H c cw ∧ DpAll K H aw (l.map ptD) ∧ DpAll K H cw (m.map ptD) ∧ PtsOk b l ∧ PtsOk b m ∧ b ≤ 4000 ∧ l.length < 1000 ∧ m.length < 1000 ∧
  ∀ (p : Addr) (H' : Hp) (us : List V) (r : List Pt), Kp M0 H H' → SqT K H' p us → DpAll K H' us (r.map ptD) → PtsOk b r → (∀ y, y ∈ r ↔ y ∈ l ∨ y ∈ m) → Q (.ref p) H'
theorem code_even {b : Nat} {r : List Pt} {y : Pt} (h : PtsOk b r) (oy : PtOk y) (e : codeP r y % 2 = 0) : y ∉ r := fun m => by
  obtain ⟨j, hj⟩ := List.getElem?_of_mem m
  obtain ⟨g1, g2⟩ := less_gap h oy
  have h1 : lessN r y ≤ j := by
    by_cases z : j < lessN r y
    · exact absurd (g1 j y z hj) (lt_irrefl y)
    · omega
  have h2 : lessN r y = j := by
    by_cases z : lessN r y < j
    · have lt := (List.getElem?_eq_some_iff.mp hj).1
      have e1 : r[lessN r y]? = some r[lessN r y] := List.getElem?_eq_getElem (by omega)
      exact absurd (asc_get h.asc z e1 hj) (g2 _ _ (Nat.le_refl _) e1)
    · omega
  unfold codeP at e
  rw [if_pos (by rw [h2]; exact hj)] at e
  omega
theorem code_two {r : List Pt} {y : Pt} (e : codeP r y % 2 = 0) : codeP r y = 2 * lessN r y := by
  unfold codeP at e ⊢
  split at e
  · omega
  · rename_i q; rw [if_neg q]
theorem code_odd {r : List Pt} {y : Pt} (e : ¬ codeP r y % 2 = 0) : y ∈ r := by
  unfold codeP at e
  split at e
  · rename_i q; exact List.mem_of_getElem? q
  · omega
def MerI (K : PySem.W.Frag) (a c lf : Addr) (l m : List Pt) (b : Nat) (H : Hp) (i : Nat) (σ : L2.St) (H' : Hp) : Prop := ∃ (us : List V) (r : List Pt) (v3 v4 : Option V), σ = [some (.ref a), some (.ref c), some (.ref lf), v3, v4] ∧ Kp M0 H H' ∧ H' lf = some (.lst us) ∧ DpAll K H' us (r.map ptD) ∧ PtsOk b r ∧ (∀ y, y ∈ r ↔ y ∈ l ∨ y ∈ m.take i) ∧ r.length ≤ l.length + i
theorem ok_merged_points (W : Ds K mg) : FnOk P w K mg base CX0 3 W.f_merged_points W.fd_merged_points P_merged_points (sp_merged_points K) := by
  refine W.D_merged_points.F.ok sc_merged_points (fun vs H Q E h => ?len) (fun cdv A outer s H vs Q E hr h => ?body)
  case len =>
    obtain ⟨a, c, aw, cw, l, m, b, rfl, _⟩ := h
    rfl
  case body =>
    obtain ⟨a, c, aw, cw, l, m, b, rfl, sa, sc, da, dc, ol, om, hb, hl, hm, k⟩ := h
    have nd := sc_merged_points.nd
    have hu := hu_of hr
    have hu64 := hr.units
    have hu65 := hu65_of hr
    refine ⟨_, (pss_cons (ps_if (PW.pt (pw_or (pt_not (p_truth K (pv 1) (by intro _; rfl))) (pw_or1 (pt_cmpR (k_eqD K hu64) (pv 0) (pv 1) (nomark _)))))
     (pss_one (ps_ret (pv 0)))
     pss_nil)
  (pss_cons (ps_if (pt_not (p_truth K (pv 0) (by intro _; rfl)))
     (pss_one (ps_ret (pv 1)))
     pss_nil)
  (pss_cons (ps_set (i := 2) nd rfl (by first | exact Or.inl rfl | exact Or.inr rfl) (pe_callTy (c_list K) (by rfl) W.T.b_list (by decide +kernel) (pa_cons (pv 0) pa_nil)))
  (pss_cons (ps_for PassesOwn.never rfl (i_tup K (pv 1)) (pg_name (i := 3) nd rfl (by first | exact Or.inl rfl | exact Or.inr rfl))
     (pss_cons (ps_set (i := 4) nd rfl (by first | exact Or.inl rfl | exact Or.inr rfl) (pe_call (ok_code_of W) (hr.mono (by first | decide | omega)) rfl W.D_code_of.g W.D_code_of.F.kp W.D_code_of.b .nil pass0 (pa_cons (pv 2) (pa_cons (pv 3) pa_nil))))
      (pss_one (ps_if (pt_cmpR op_eq (pe_op op_mod (pv 4) pe_int) pe_int (nomark _))
         (pss_one (ps_expr (e_bm K (pe_bm PySem.F.plainAttrs_list PySem.F.slot_list_insert PySem.F.type_list_insert mt_insert (pv 2) (pa_cons (pe_op op_fdivW (pv 4) pe_int) (pa_cons (pv 3) pa_nil))))))
         pss_nil))))
  (pss_one (ps_ret (pe_callTy (c_tuple K) (by rfl) W.T.b_tuple (by decide +kernel) (pa_cons (pv 2) pa_nil)))))))), ?_⟩
    simp only [tSeq, tIfS, tNext, tRet, tRetN, tAsg, tDrop, tPar, tCons, tNil, tCB, tVar, tC, tOp, rI, rI0, rU, tTest, tB, tTup, tLst, gName, tIf, tAnd, tOr, tNot, tAndV, tOrV, tNotV, tUn, tCall, tChain, tSl, tNoPart, tPart, tBM, tBM0, tDGet, sDPut, tAugS, ipI, tAug, rIxT, rIxL, rMulK, rLenK, rLstK, tTruK, gTup, gCons, gNil, rEq, rNe, scal, tNever, rMulK, rGcd, L2.start, List.map, List.length, List.replicate, List.cons_append, List.nil_append, List.append_nil, List.set, List.set_cons_zero, List.set_cons_succ, List.getElem?_cons_succ, List.getElem?_cons_zero, Option.some.injEq, List.cons.injEq, V.int.injEq, V.str.injEq, V.bl.injEq, V.ref.injEq, and_true, true_and, exists_eq_left, exists_eq_left', exists_eq_right, exists_eq_right', exists_eq, exists_and_left, exists_and_right, and_assoc, exists_false, false_and, and_false, or_false, false_or, reduceCtorEq, Nat.reduceAdd, Nat.reduceSub, List.append_assoc, eq_self, if_true, if_false, Bool.false_eq_true, decide_eq_true_eq, List.length_cons, List.length_nil]
    have al : aw.length = l.length := by rw [dps_len da, List.length_map]
    have cl : cw.length = m.length := by rw [dps_len dc, List.length_map]
    refine ⟨!cw.isEmpty, Or.inr (Or.inl ⟨cw, sc, rfl⟩), ite2 (fun z => ?_) (fun z0 => ?_)⟩
    · have e : m = [] := by
        have : cw = [] := by simpa using z
        rw [this] at cl; exact List.length_eq_zero_iff.mp cl.symm
      exact k a H aw l (Kp.refl H) sa da ol fun y => by rw [e]; simp
    refine eqD (.tup sa da.up) (.tup sc dc.up) (ptT_shaped _) (ptT_shaped _) (b := decide (l = m)) (by rw [PyData.eqv]; exact pts_eqv _ _) ⟨_, rfl, ite2 (fun z => ?_) (fun _ => ?_)⟩
    · exact k a H aw l (Kp.refl H) sa da ol fun y => by rw [of_decide_eq_true z]; simp
    refine ⟨!aw.isEmpty, Or.inr (Or.inl ⟨aw, sa, rfl⟩), ite2 (fun z => ?_) (fun z1 => ?_)⟩
    · have e : l = [] := by
        have : aw = [] := by simpa using z
        rw [this] at al; exact List.length_eq_zero_iff.mp al.symm
      exact k c H cw m (Kp.refl H) sc dc om fun y => by rw [e]; simp
    refine ⟨aw, Or.inr sa, fun lf hlf => tforT ?_⟩
    simp only [tSeq, tIfS, tNext, tRet, tRetN, tAsg, tDrop, tPar, tCons, tNil, tCB, tVar, tC, tOp, rI, rI0, rU, tTest, tB, tTup, tLst, gName, tIf, tAnd, tOr, tNot, tAndV, tOrV, tNotV, tUn, tCall, tChain, tSl, tNoPart, tPart, tBM, tBM0, tDGet, sDPut, tAugS, ipI, tAug, rIxT, rIxL, rMulK, rLenK, rLstK, tTruK, gTup, gCons, gNil, rEq, rNe, scal, tNever, rMulK, rGcd, L2.start, List.map, List.length, List.replicate, List.cons_append, List.nil_append, List.append_nil, List.set, List.set_cons_zero, List.set_cons_succ, List.getElem?_cons_succ, List.getElem?_cons_zero, Option.some.injEq, List.cons.injEq, V.int.injEq, V.str.injEq, V.bl.injEq, V.ref.injEq, and_true, true_and, exists_eq_left, exists_eq_left', exists_eq_right, exists_eq_right', exists_eq, exists_and_left, exists_and_right, and_assoc, exists_false, false_and, and_false, or_false, false_or, reduceCtorEq, Nat.reduceAdd, Nat.reduceSub, List.append_assoc, eq_self, if_true, if_false, Bool.false_eq_true, decide_eq_true_eq, List.length_cons, List.length_nil]
    have k0 := Kp.new (M := M0) (o := .lst aw) hlf
    refine ⟨c, rfl, ⟨cw, sqT_tk (Tk.of0 k0) sc⟩, ?_⟩
    refine for_tup (K := K) (a := c) (xs := cw) (MerI K a c lf l m b H) ⟨aw, l, none, none, rfl, k0, upd_same, pts_tk da (Tk.of0 k0), ol, fun y => by simp, by omega⟩ (fun i σ H' _ h => ?_) ?_ ?_
    · obtain ⟨us, r, v3, v4, _, k1, _⟩ := h
      exact sqT_tk (Tk.of0 k1) sc
    · rintro i v σ H' hi ⟨us, r, v3, v4, rfl, k1, hp, dus, or, hm2, hrl⟩
      simp only [tSeq, tIfS, tNext, tRet, tRetN, tAsg, tDrop, tPar, tCons, tNil, tCB, tVar, tC, tOp, rI, rI0, rU, tTest, tB, tTup, tLst, gName, tIf, tAnd, tOr, tNot, tAndV, tOrV, tNotV, tUn, tCall, tChain, tSl, tNoPart, tPart, tBM, tBM0, tDGet, sDPut, tAugS, ipI, tAug, rIxT, rIxL, rMulK, rLenK, rLstK, tTruK, gTup, gCons, gNil, rEq, rNe, scal, tNever, rMulK, rGcd, L2.start, List.map, List.length, List.replicate, List.cons_append, List.nil_append, List.append_nil, List.set, List.set_cons_zero, List.set_cons_succ, List.getElem?_cons_succ, List.getElem?_cons_zero, Option.some.injEq, List.cons.injEq, V.int.injEq, V.str.injEq, V.bl.injEq, V.ref.injEq, and_true, true_and, exists_eq_left, exists_eq_left', exists_eq_right, exists_eq_right', exists_eq, exists_and_left, exists_and_right, and_assoc, exists_false, false_and, and_false, or_false, false_or, reduceCtorEq, Nat.reduceAdd, Nat.reduceSub, List.append_assoc, eq_self, if_true, if_false, Bool.false_eq_true, decide_eq_true_eq, List.length_cons, List.length_nil]
      obtain ⟨d, e1, dv⟩ := dps_get (pts_tk dc (Tk.of0 k1)) hi
      rw [List.getElem?_map] at e1
      cases e2 : m[i]? with
      | none => rw [e2] at e1; cases e1
      | some y =>
        rw [e2] at e1; cases e1
        have my := List.mem_of_getElem? e2
        have oy := om.ok y my
        have sy := om.sz y my
        have usl : us.length = r.length := by rw [dps_len dus, List.length_map]
        have il := (List.getElem?_eq_some_iff.mp e2).1
        refine ⟨lf, v, us, r, y, rfl, Or.inl (sqL_mk hp), dus, dv, or.mono hb, oy, sy.mono hb, by omega, ?_⟩
        obtain ⟨i1, i2, i3⟩ := ins_ok or oy sy
        have lr := less_le (l := r) (y := y)
        have memb : ∀ z, z ∈ insP r y ↔ z ∈ l ∨ z ∈ m.take (i + 1) := fun z => by
          rw [i2, hm2, take_snoc e2]
          simp only [List.mem_append, List.mem_singleton]
          exact or_assoc
        refine ⟨_, rfl, by decide, ?_⟩
        by_cases even : codeP r y % 2 = 0
        · have ny : y ∉ r := code_even or oy even
          have e3 : (codeP r y : Int) % 2 = 0 := by omega
          rw [if_pos e3]
          have ec : codeP r y = 2 * lessN r y := code_two even
          refine ⟨Or.inl ⟨rfl, us, sqL_mk hp⟩, _, rfl, wide_div (b := 2) (by omega) (by decide) (by omega) (by omega), ?_⟩
          have e4 : ((codeP r y : Int) / 2) = ((lessN r y : Nat) : Int) := by omega
          rw [e4]
          refine ⟨us, hp, by rw [sizeLine_eq]; omega, by omega, by omega, ?_⟩
          have ei : insP r y = r.take (lessN r y) ++ [y] ++ r.drop (lessN r y) := by
            unfold insP
            rw [if_neg ny, (low_take or oy).1]
            have : (lowP r y).length = lessN r y := rfl
            rw [this, List.length_take, Nat.min_eq_left lr]
          refine ⟨_, insP r y, _, _, rfl, k1.at hlf, upd_same, ?_, i1, memb, by rw [i3 ny]; omega⟩
          have e5 : us.take (lessN r y) ++ v :: us.drop (lessN r y) = us.take (lessN r y) ++ [v] ++ us.drop (lessN r y) := by simp
          rw [ei, List.map_append, List.map_append, List.map_take, List.map_drop, Int.toNat_natCast, e5]
          have tk : Tk H' (upd H' lf (.lst (us.take (lessN r y) ++ [v] ++ us.drop (lessN r y)))) := Tk.lst hp
          exact dps_app (dps_app (dps_take _ (pts_tk dus tk)) (dps_one (dp_tk tk _ _ (ptD_tup _) dv))) (dps_drop _ (pts_tk dus tk))
        · rw [if_neg (by omega)]
          have e3 : y ∈ r := code_odd even
          have ei : insP r y = r := by unfold insP; rw [if_pos e3]
          rw [ei] at memb
          exact ⟨us, r, _, _, rfl, k1, hp, dus, or, memb, by omega⟩
    · rintro σ H' ⟨us, r, v3, v4, rfl, k1, hp, dus, or, hm2, hrl⟩
      simp only [tSeq, tIfS, tNext, tRet, tRetN, tAsg, tDrop, tPar, tCons, tNil, tCB, tVar, tC, tOp, rI, rI0, rU, tTest, tB, tTup, tLst, gName, tIf, tAnd, tOr, tNot, tAndV, tOrV, tNotV, tUn, tCall, tChain, tSl, tNoPart, tPart, tBM, tBM0, tDGet, sDPut, tAugS, ipI, tAug, rIxT, rIxL, rMulK, rLenK, rLstK, tTruK, gTup, gCons, gNil, rEq, rNe, scal, tNever, rMulK, rGcd, L2.start, List.map, List.length, List.replicate, List.cons_append, List.nil_append, List.append_nil, List.set, List.set_cons_zero, List.set_cons_succ, List.getElem?_cons_succ, List.getElem?_cons_zero, Option.some.injEq, List.cons.injEq, V.int.injEq, V.str.injEq, V.bl.injEq, V.ref.injEq, and_true, true_and, exists_eq_left, exists_eq_left', exists_eq_right, exists_eq_right', exists_eq, exists_and_left, exists_and_right, and_assoc, exists_false, false_and, and_false, or_false, false_or, reduceCtorEq, Nat.reduceAdd, Nat.reduceSub, List.append_assoc, eq_self, if_true, if_false, Bool.false_eq_true, decide_eq_true_eq, List.length_cons, List.length_nil]
      refine ⟨lf, us, rfl, Or.inl ⟨sqL_mk hp, fun t ht => ?_⟩⟩
      have kt := k1.trans (Kp.new (o := .tup us) ht)
      rw [cl, List.take_length] at hm2
      exact k t _ us r kt (sqT_mk upd_same) (pts_tk dus (Tk.new ht)) or hm2
end
end G
set_option Elab.async false
set_option linter.all false
set_option maxRecDepth 100000
set_option maxHeartbeats 4000000
set_option exponentiation.threshold 10000
namespace G
open PySem L2 LamX NdefX
section
variable {P : Program} {w : World} {K : PySem.W.Frag} {mg : Str → Option Value} {base : Heap}
/-! ### make_point, between, spread -/
def sp_make_point (K : PySem.W.Frag) : Sp := fun vs H Q _ => ∃ p q : Int, vs = [.int p, .int q] ∧ 0 < q ∧ q.natAbs < 2 ^ 8000 ∧
  ∀ (v : V) (H' : Hp), Kp M0 H H' → Dp K H' v (ptD (normP p q)) → Q v H'
theorem ok_make_point (W : Ds K mg) : FnOk P w K mg base CX0 1 W.f_make_point W.fd_make_point P_make_point (sp_make_point K) := by
  refine W.D_make_point.F.ok sc_make_point (fun vs H Q E h => ?len) (fun cdv A outer s H vs Q E hr h => ?body)
  case len =>
    obtain ⟨p, q, rfl, _⟩ := h
    rfl
  case body =>
    obtain ⟨p, q, rfl, hq, hb, k⟩ := h
    have nd := sc_make_point.nd
    have hu := hu_of hr
    have hu64 := hr.units
    have hu65 := hu65_of hr
    refine ⟨_, (pss_cons (ps_if (pt_cmpR op_eq (pv 1) pe_int (nomark _))
     (pss_one ps_never)
     pss_nil)
  (pss_cons (ps_set (i := 2) nd rfl (by first | exact Or.inl rfl | exact Or.inr rfl) (pe_ifExp (pt_cmpR op_gt (pv 1) pe_int (nomark _)) (pe_callBfun cr_gcd (by rfl) W.T.i_gcd (pa_cons (pv 0) (pa_cons (pv 1) pa_nil))) (pe_un un_neg (pe_callBfun cr_gcd (by rfl) W.T.i_gcd (pa_cons (pv 0) (pa_cons (pv 1) pa_nil))))))
  (pss_one (ps_ret (pe_tup (pa_cons (pe_op op_fdivW (pv 0) (pv 2)) (pa_cons (pe_op op_fdivW (pv 1) (pv 2)) pa_nil))))))), ?_⟩
    simp only [tSeq, tIfS, tNext, tRet, tRetN, tAsg, tDrop, tPar, tCons, tNil, tCB, tVar, tC, tOp, rI, rI0, rU, tTest, tB, tTup, tLst, gName, tIf, tAnd, tOr, tNot, tAndV, tOrV, tNotV, tUn, tCall, tChain, tSl, tNoPart, tPart, tBM, tBM0, tDGet, sDPut, tAugS, ipI, tAug, rIxT, rIxL, rMulK, rLenK, rLstK, tTruK, gTup, gCons, gNil, rEq, rNe, scal, tNever, rMulK, rGcd, L2.start, List.map, List.length, List.replicate, List.cons_append, List.nil_append, List.append_nil, List.set, List.set_cons_zero, List.set_cons_succ, List.getElem?_cons_succ, List.getElem?_cons_zero, Option.some.injEq, List.cons.injEq, V.int.injEq, V.str.injEq, V.bl.injEq, V.ref.injEq, and_true, true_and, exists_eq_left, exists_eq_left', exists_eq_right, exists_eq_right', exists_eq, exists_and_left, exists_and_right, and_assoc, exists_false, false_and, and_false, or_false, false_or, reduceCtorEq, Nat.reduceAdd, Nat.reduceSub, List.append_assoc, eq_self, if_true, if_false, Bool.false_eq_true, decide_eq_true_eq, List.length_cons, List.length_nil]
    have hgp := gcd_pos' (p := p) hq
    have hgl : Int.gcd p q ≤ q.natAbs := Int.gcd_le_natAbs_right p (by omega)
    have hw : ∀ i, CDivW i (Int.gcd p q : Int) := fun i => wide_div hgp (b := 8000) (by rw [Int.natAbs_natCast]; omega) (by omega) (by omega)
    refine ite2 (fun z => by omega) (fun _ => ?_)
    refine ite2 (fun _ => ?_) (fun z => by omega)
    exact ⟨hw p, hw q, by decide, fun t ht => k _ _ (Kp.new ht) (pt_mk upd_same)⟩

def sp_between (K : PySem.W.Frag) : Sp := fun vs H Q _ => ∃ (v u : V) (a b : Pt) (i n : Int), vs = [v, u, .int i, .int n] ∧ Dp K H v (ptD a) ∧ Dp K H u (ptD b) ∧ PtOk a ∧ PtOk b ∧ Sz 1000 a ∧ Sz 1000 b ∧ 0 ≤ i ∧ i < 2 ^ 60 ∧ 0 < n ∧ n < 2 ^ 60 ∧
  ∀ (v : V) (H' : Hp), Kp M0 H H' → Dp K H' v (ptD (betP a b i n)) → Q v H'
theorem ok_between (W : Ds K mg) : FnOk P w K mg base CX0 2 W.f_between W.fd_between P_between (sp_between K) := by
  refine W.D_between.F.ok sc_between (fun vs H Q E h => ?len) (fun cdv A outer s H vs Q E hr h => ?body)
  case len =>
    obtain ⟨v, u, a, b, i, n, rfl, _⟩ := h
    rfl
  case body =>
    obtain ⟨v, u, x, y, i, n, rfl, hx, hy, ox, oy, sx, sy, hi0, hi1, hn0, hn1, k⟩ := h
    obtain ⟨a, rfl, ha⟩ := pt_of hx
    obtain ⟨b, rfl, hb⟩ := pt_of hy
    have nd := sc_between.nd
    have hu := hu_of hr
    have hu64 := hr.units
    have hu65 := hu65_of hr
    refine ⟨_, (pss_cons (ps_set (i := 4) nd rfl (by first | exact Or.inl rfl | exact Or.inr rfl) (pe_op op_mulK (pe_ix (k_ixT K) (pv 0) pe_int (fun _ _ => rfl)) (pe_ix (k_ixT K) (pv 1) pe_int (fun _ _ => rfl))))
  (pss_cons (ps_set (i := 5) nd rfl (by first | exact Or.inl rfl | exact Or.inr rfl) (pe_op op_sub (pe_op op_mulK (pe_ix (k_ixT K) (pv 1) pe_int (fun _ _ => rfl)) (pe_ix (k_ixT K) (pv 0) pe_int (fun _ _ => rfl))) (pv 4)))
  (pss_one (ps_ret (pe_call (ok_make_point W) (hr.mono (by first | decide | omega)) rfl W.D_make_point.g W.D_make_point.F.kp W.D_make_point.b .nil pass0 (pa_cons (pe_op op_add (pe_op op_mulK (pv 4) (pv 3)) (pe_op op_mulK (pv 5) (pv 2))) (pa_cons (pe_op op_mulK (pe_op op_mulK (pe_ix (k_ixT K) (pv 0) pe_int (fun _ _ => rfl)) (pe_ix (k_ixT K) (pv 1) pe_int (fun _ _ => rfl))) (pv 3)) pa_nil))))))), ?_⟩
    simp only [tSeq, tIfS, tNext, tRet, tRetN, tAsg, tDrop, tPar, tCons, tNil, tCB, tVar, tC, tOp, rI, rI0, rU, tTest, tB, tTup, tLst, gName, tIf, tAnd, tOr, tNot, tAndV, tOrV, tNotV, tUn, tCall, tChain, tSl, tNoPart, tPart, tBM, tBM0, tDGet, sDPut, tAugS, ipI, tAug, rIxT, rIxL, rMulK, rLenK, rLstK, tTruK, gTup, gCons, gNil, rEq, rNe, scal, tNever, rMulK, rGcd, L2.start, List.map, List.length, List.replicate, List.cons_append, List.nil_append, List.append_nil, List.set, List.set_cons_zero, List.set_cons_succ, List.getElem?_cons_succ, List.getElem?_cons_zero, Option.some.injEq, List.cons.injEq, V.int.injEq, V.str.injEq, V.bl.injEq, V.ref.injEq, and_true, true_and, exists_eq_left, exists_eq_left', exists_eq_right, exists_eq_right', exists_eq, exists_and_left, exists_and_right, and_assoc, exists_false, false_and, and_false, or_false, false_or, reduceCtorEq, Nat.reduceAdd, Nat.reduceSub, List.append_assoc, eq_self, if_true, if_false, Bool.false_eq_true, decide_eq_true_eq, List.length_cons, List.length_nil]
    have b1 : (x.1 * y.2).natAbs < 2 ^ 2000 := abs_mul_lt sx.1 sy.2
    have b2 : (y.1 * x.2).natAbs < 2 ^ 2000 := abs_mul_lt sy.1 sx.2
    have b3 : (x.2 * y.2).natAbs < 2 ^ 2000 := abs_mul_lt sx.2 sy.2
    have bi : i.natAbs < 2 ^ 60 := by omega
    have bn : n.natAbs < 2 ^ 60 := by omega
    have b4 : (x.2 * y.2 * n).natAbs < 2 ^ 8000 := abs_mono (abs_mul_lt b3 bn) (by omega)
    (repeat (first | refine ⟨_, ha, ?_⟩ | refine ⟨_, hb, ?_⟩ | refine ⟨_, rfl, ?_⟩))
    refine ⟨mulOk_w sx.1 sy.2 (by omega) (by omega) (by omega), ?_⟩
    (repeat (first | refine ⟨_, ha, ?_⟩ | refine ⟨_, hb, ?_⟩ | refine ⟨_, rfl, ?_⟩))
    refine ⟨mulOk_w sy.1 sx.2 (by omega) (by omega) (by omega), mulOk_r (by omega) (by omega), mulOk_r (by omega) (by omega), ?_⟩
    (repeat (first | refine ⟨_, ha, ?_⟩ | refine ⟨_, hb, ?_⟩ | refine ⟨_, rfl, ?_⟩))
    refine ⟨mulOk_w sx.2 sy.2 (by omega) (by omega) (by omega), mulOk_r (by omega) (by omega), _, _, rfl, ?_, b4, k⟩
    exact Int.mul_pos (Int.mul_pos ox.pos oy.pos) hn0

def sp_spread (K : PySem.W.Frag) : Sp := fun vs H Q _ => ∃ (a : Addr) (ws : List V) (l : List Pt) (gap n : Nat), vs = [.ref a, .int gap, .int n] ∧ SqT K H a ws ∧ DpAll K H ws (l.map ptD) ∧ PtsOk 1000 l ∧ l.length < 1000 ∧ gap ≤ l.length ∧ n < 1000 ∧
  ∀ (D : Addr) (H' : Hp) (us : List V), H D = none → Kp M0 H H' → H' D = some (.lst us) → DpAll K H' us ((spreadP l gap n).map ptD) → Q (.ref D) H'
theorem ok_spread (W : Ds K mg) : FnOk P w K mg base CX0 4 W.f_spread W.fd_spread P_spread (sp_spread K) := by
  refine W.D_spread.F.ok sc_spread (fun vs H Q E h => ?len) (fun cdv A outer s H vs Q E hr h => ?body)
  case len =>
    obtain ⟨a, ws, l, gap, n, rfl, _⟩ := h
    rfl
  case body =>
    obtain ⟨a, ws, l, gap, n, rfl, hT, hws, hl, hlen, hgap, hn, k⟩ := h
    have wlen : ws.length = l.length := by rw [dps_len hws, List.length_map]
    have nd := sc_spread.nd
    have hu := hu_of hr
    have hu64 := hr.units
    have hu65 := hu65_of hr
    refine ⟨_, (pss_cons (ps_if (pt_not (p_truth K (pv 0) (by intro _; rfl)))
     (pss_one (ps_ret (pe_lc (own := [("i", 3)]) rfl nd (pi_range1 rfl W.T.b_range (pa_cons (pv 2) pa_nil)) (blkOk_by (N := N_spread) (sc := defScope s_spread) (by decide +kernel)) (fun _ _ _ _ _ => (pg_name (i := 3) nd rfl (by first | exact Or.inl rfl | exact Or.inr rfl))) (fun _ _ _ _ _ => pts_nil) (fun _ _ _ _ _ => (pe_tup (pa_cons (pv 3) (pa_cons pe_int pa_nil)))))))
     pss_nil)
  (pss_cons (ps_if (pt_cmpR op_eq (pv 1) pe_int (nomark _))
     (pss_cons (ps_asg (pe_ix (k_ixT K) (pv 0) pe_int (fun _ _ => rfl)) (g_tup K (pg_tup (n := 2) rfl (pgs_cons (pg_name (i := 4) nd rfl (by first | exact Or.inl rfl | exact Or.inr rfl)) (pgs_cons (pg_name (i := 5) nd rfl (by first | exact Or.inl rfl | exact Or.inr rfl)) pgs_nil)))))
      (pss_one (ps_ret (pe_lc (own := [("i", 3)]) rfl nd (pi_range1 rfl W.T.b_range (pa_cons (pv 2) pa_nil)) (blkOk_by (N := N_spread) (sc := defScope s_spread) (by decide +kernel)) (fun _ _ _ _ _ => (pg_name (i := 3) nd rfl (by first | exact Or.inl rfl | exact Or.inr rfl))) (fun _ _ _ _ _ => pts_nil) (fun _ _ _ _ _ => (pe_tup (pa_cons (pe_op op_add (pv 4) (pe_op op_mulK (pe_op op_sub (pv 3) (pv 2)) (pv 5))) (pa_cons (pv 5) pa_nil))))))))
     pss_nil)
  (pss_cons (ps_if (pt_cmpR op_eq (pv 1) (pe_callB (c_len K) (by rfl) W.T.b_len (by decide +kernel) (pa_cons (pv 0) pa_nil)) (nomark _))
     (pss_cons (ps_asg (pe_ix (k_ixT K) (pv 0) (pe_un un_neg pe_int) (fun _ _ => rfl)) (g_tup K (pg_tup (n := 2) rfl (pgs_cons (pg_name (i := 4) nd rfl (by first | exact Or.inl rfl | exact Or.inr rfl)) (pgs_cons (pg_name (i := 5) nd rfl (by first | exact Or.inl rfl | exact Or.inr rfl)) pgs_nil)))))
      (pss_one (ps_ret (pe_lc (own := [("i", 3)]) rfl nd (pi_range1 rfl W.T.b_range (pa_cons (pv 2) pa_nil)) (blkOk_by (N := N_spread) (sc := defScope s_spread) (by decide +kernel)) (fun _ _ _ _ _ => (pg_name (i := 3) nd rfl (by first | exact Or.inl rfl | exact Or.inr rfl))) (fun _ _ _ _ _ => pts_nil) (fun _ _ _ _ _ => (pe_tup (pa_cons (pe_op op_add (pv 4) (pe_op op_mulK (pe_op op_add (pv 3) pe_int) (pv 5))) (pa_cons (pv 5) pa_nil))))))))
     pss_nil)
  (pss_one (ps_ret (pe_lc (own := [("i", 3)]) rfl nd (pi_range2 rfl W.T.b_range (pa_cons pe_int (pa_cons (pe_op op_add (pv 2) pe_int) pa_nil))) (blkOk_by (N := N_spread) (sc := defScope s_spread) (by decide +kernel)) (fun _ _ _ _ _ => (pg_name (i := 3) nd rfl (by first | exact Or.inl rfl | exact Or.inr rfl))) (fun _ _ _ _ _ => pts_nil) (fun _ _ _ _ _ => (pe_call (ok_between W) (hr.mono (by first | decide | omega)) rfl W.D_between.g W.D_between.F.kp W.D_between.b .nil pass0 (pa_cons (pe_ix (k_ixT K) (pv 0) (pe_op op_sub (pv 1) pe_int) (fun _ _ => rfl)) (pa_cons (pe_ix (k_ixT K) (pv 0) (pv 1) (fun _ _ => rfl)) (pa_cons (pv 3) (pa_cons (pe_op op_add (pv 2) pe_int) pa_nil)))))))))))), ?_⟩
    simp only [tSeq, tIfS, tNext, tRet, tRetN, tAsg, tDrop, tPar, tCons, tNil, tCB, tVar, tC, tOp, rI, rI0, rU, tTest, tB, tTup, tLst, gName, tIf, tAnd, tOr, tNot, tAndV, tOrV, tNotV, tUn, tCall, tChain, tSl, tNoPart, tPart, tBM, tBM0, tDGet, sDPut, tAugS, ipI, tAug, rIxT, rIxL, rMulK, rLenK, rLstK, tTruK, gTup, gCons, gNil, rEq, rNe, scal, tNever, rMulK, rGcd, L2.start, List.map, List.length, List.replicate, List.cons_append, List.nil_append, List.append_nil, List.set, List.set_cons_zero, List.set_cons_succ, List.getElem?_cons_succ, List.getElem?_cons_zero, Option.some.injEq, List.cons.injEq, V.int.injEq, V.str.injEq, V.bl.injEq, V.ref.injEq, and_true, true_and, exists_eq_left, exists_eq_left', exists_eq_right, exists_eq_right', exists_eq, exists_and_left, exists_and_right, and_assoc, exists_false, false_and, and_false, or_false, false_or, reduceCtorEq, Nat.reduceAdd, Nat.reduceSub, List.append_assoc, eq_self, if_true, if_false, Bool.false_eq_true, decide_eq_true_eq, List.length_cons, List.length_nil]
    have e0 : (spreadP l gap n).map ptD = (List.range n).map fun i => ptD (spreadI l gap n i) := by
      unfold spreadP; rw [List.map_map]; rfl
    rw [e0] at k
    refine ⟨!ws.isEmpty, Or.inr (Or.inl ⟨ws, hT, rfl⟩), ?_⟩
    refine ite2 (fun c => ?_) (fun c => ?_)
    · have l0 : l.length = 0 := by
        cases ws with
        | nil => simpa using wlen.symm
        | cons v r => simp at c
      refine tlcR ?_
      refine ⟨_, rfl, lcR (K := K) (fun i => ptD (spreadI l gap n i)) (by rw [sizeLine_eq]; omega) (fun i _ => rfl) (fun i H1 hi k1 Q' q => ?_) fun D H1 vs hD k1 hd1 ha => k D H1 vs hD k1 hd1 ha⟩
      simp only [tSeq, tIfS, tNext, tRet, tRetN, tAsg, tDrop, tPar, tCons, tNil, tCB, tVar, tC, tOp, rI, rI0, rU, tTest, tB, tTup, tLst, gName, tIf, tAnd, tOr, tNot, tAndV, tOrV, tNotV, tUn, tCall, tChain, tSl, tNoPart, tPart, tBM, tBM0, tDGet, sDPut, tAugS, ipI, tAug, rIxT, rIxL, rMulK, rLenK, rLstK, tTruK, gTup, gCons, gNil, rEq, rNe, scal, tNever, rMulK, rGcd, L2.start, List.map, List.length, List.replicate, List.cons_append, List.nil_append, List.append_nil, List.set, List.set_cons_zero, List.set_cons_succ, List.getElem?_cons_succ, List.getElem?_cons_zero, Option.some.injEq, List.cons.injEq, V.int.injEq, V.str.injEq, V.bl.injEq, V.ref.injEq, and_true, true_and, exists_eq_left, exists_eq_left', exists_eq_right, exists_eq_right', exists_eq, exists_and_left, exists_and_right, and_assoc, exists_false, false_and, and_false, or_false, false_or, reduceCtorEq, Nat.reduceAdd, Nat.reduceSub, List.append_assoc, eq_self, if_true, if_false, Bool.false_eq_true, decide_eq_true_eq, List.length_cons, List.length_nil]
      refine ⟨by decide, fun p hp => q _ _ (Kp.new hp) ?_⟩
      have : spreadI l gap n i = ((i : Int), 1) := by unfold spreadI; rw [if_pos l0]
      rw [this]
      exact pt_mk upd_same
    have l0 : l.length ≠ 0 := fun z => by
      rw [z] at wlen
      rw [List.length_eq_zero_iff.mp wlen] at c
      simp at c
    refine ite2 (fun c1 => ?_) (fun c1 => ?_)
    · have g0 : gap = 0 := by omega
      subst g0
      obtain ⟨v, hv, dv⟩ := pts_item hws (i := 0) (by omega)
      obtain ⟨b, rfl, hb⟩ := pt_of dv
      have sx := hl.sz _ (List.mem_of_getElem? (atP_some (l := l) (i := 0) (by omega)))
      refine ⟨ws, hT, _, atI_nat (j := 0) hv, _, rfl, _, hb, rfl, _, _, rfl, _, _, rfl, rfl, ?_⟩
      refine tlcR ?_
      refine ⟨_, rfl, lcR (K := K) (fun i => ptD (spreadI l 0 n i)) (by rw [sizeLine_eq]; omega) (fun i _ => rfl) (fun i H1 hi k1 Q' q => ?_) fun D H1 vs hD k1 hd1 ha => k D H1 vs hD k1 hd1 ha⟩
      simp only [tSeq, tIfS, tNext, tRet, tRetN, tAsg, tDrop, tPar, tCons, tNil, tCB, tVar, tC, tOp, rI, rI0, rU, tTest, tB, tTup, tLst, gName, tIf, tAnd, tOr, tNot, tAndV, tOrV, tNotV, tUn, tCall, tChain, tSl, tNoPart, tPart, tBM, tBM0, tDGet, sDPut, tAugS, ipI, tAug, rIxT, rIxL, rMulK, rLenK, rLstK, tTruK, gTup, gCons, gNil, rEq, rNe, scal, tNever, rMulK, rGcd, L2.start, List.map, List.length, List.replicate, List.cons_append, List.nil_append, List.append_nil, List.set, List.set_cons_zero, List.set_cons_succ, List.getElem?_cons_succ, List.getElem?_cons_zero, Option.some.injEq, List.cons.injEq, V.int.injEq, V.str.injEq, V.bl.injEq, V.ref.injEq, and_true, true_and, exists_eq_left, exists_eq_left', exists_eq_right, exists_eq_right', exists_eq, exists_and_left, exists_and_right, and_assoc, exists_false, false_and, and_false, or_false, false_or, reduceCtorEq, Nat.reduceAdd, Nat.reduceSub, List.append_assoc, eq_self, if_true, if_false, Bool.false_eq_true, decide_eq_true_eq, List.length_cons, List.length_nil]
      refine ⟨mulOk_l (by omega) (by omega), by decide, fun p hp => q _ _ (Kp.new hp) ?_⟩
      have : spreadI l 0 n i = ((atP l 0).1 + ((i : Int) - n) * (atP l 0).2, (atP l 0).2) := by unfold spreadI; rw [if_neg l0, if_pos rfl]
      rw [this]
      exact pt_mk upd_same
    refine ⟨ws, Or.inr hT, ?_⟩
    refine ite2 (fun c2 => ?_) (fun c2 => ?_)
    · have g0 : gap = l.length := by omega
      subst g0
      obtain ⟨v, hv, dv⟩ := pts_item hws (i := l.length - 1) (by omega)
      obtain ⟨b, rfl, hb⟩ := pt_of dv
      have sx := hl.sz _ (List.mem_of_getElem? (atP_some (l := l) (i := l.length - 1) (by omega)))
      refine ⟨ws, hT, _, (atI_last (by omega)).trans (by rw [wlen]; exact hv), _, rfl, _, hb, rfl, _, _, rfl, _, _, rfl, rfl, ?_⟩
      refine tlcR ?_
      refine ⟨_, rfl, lcR (K := K) (fun i => ptD (spreadI l l.length n i)) (by rw [sizeLine_eq]; omega) (fun i _ => rfl) (fun i H1 hi k1 Q' q => ?_) fun D H1 vs hD k1 hd1 ha => k D H1 vs hD k1 hd1 ha⟩
      simp only [tSeq, tIfS, tNext, tRet, tRetN, tAsg, tDrop, tPar, tCons, tNil, tCB, tVar, tC, tOp, rI, rI0, rU, tTest, tB, tTup, tLst, gName, tIf, tAnd, tOr, tNot, tAndV, tOrV, tNotV, tUn, tCall, tChain, tSl, tNoPart, tPart, tBM, tBM0, tDGet, sDPut, tAugS, ipI, tAug, rIxT, rIxL, rMulK, rLenK, rLstK, tTruK, gTup, gCons, gNil, rEq, rNe, scal, tNever, rMulK, rGcd, L2.start, List.map, List.length, List.replicate, List.cons_append, List.nil_append, List.append_nil, List.set, List.set_cons_zero, List.set_cons_succ, List.getElem?_cons_succ, List.getElem?_cons_zero, Option.some.injEq, List.cons.injEq, V.int.injEq, V.str.injEq, V.bl.injEq, V.ref.injEq, and_true, true_and, exists_eq_left, exists_eq_left', exists_eq_right, exists_eq_right', exists_eq, exists_and_left, exists_and_right, and_assoc, exists_false, false_and, and_false, or_false, false_or, reduceCtorEq, Nat.reduceAdd, Nat.reduceSub, List.append_assoc, eq_self, if_true, if_false, Bool.false_eq_true, decide_eq_true_eq, List.length_cons, List.length_nil]
      refine ⟨mulOk_l (by omega) (by omega), by decide, fun p hp => q _ _ (Kp.new hp) ?_⟩
      have : spreadI l l.length n i = ((atP l (l.length - 1)).1 + ((i : Int) + 1) * (atP l (l.length - 1)).2, (atP l (l.length - 1)).2) := by unfold spreadI; rw [if_neg l0, if_neg l0, if_pos rfl]
      rw [this]
      exact pt_mk upd_same
    · have g1 : 0 < gap := by omega
      have g2 : gap < l.length := by omega
      obtain ⟨v, hv, dv⟩ := pts_item hws (i := gap - 1) (by omega)
      obtain ⟨u, hu', du⟩ := pts_item hws (i := gap) g2
      have mv := List.mem_of_getElem? (atP_some (l := l) (i := gap - 1) (by omega))
      have mu := List.mem_of_getElem? (atP_some (l := l) (i := gap) g2)
      refine tlcR2 ?_
      simp only [tSeq, tIfS, tNext, tRet, tRetN, tAsg, tDrop, tPar, tCons, tNil, tCB, tVar, tC, tOp, rI, rI0, rU, tTest, tB, tTup, tLst, gName, tIf, tAnd, tOr, tNot, tAndV, tOrV, tNotV, tUn, tCall, tChain, tSl, tNoPart, tPart, tBM, tBM0, tDGet, sDPut, tAugS, ipI, tAug, rIxT, rIxL, rMulK, rLenK, rLstK, tTruK, gTup, gCons, gNil, rEq, rNe, scal, tNever, rMulK, rGcd, L2.start, List.map, List.length, List.replicate, List.cons_append, List.nil_append, List.append_nil, List.set, List.set_cons_zero, List.set_cons_succ, List.getElem?_cons_succ, List.getElem?_cons_zero, Option.some.injEq, List.cons.injEq, V.int.injEq, V.str.injEq, V.bl.injEq, V.ref.injEq, and_true, true_and, exists_eq_left, exists_eq_left', exists_eq_right, exists_eq_right', exists_eq, exists_and_left, exists_and_right, and_assoc, exists_false, false_and, and_false, or_false, false_or, reduceCtorEq, Nat.reduceAdd, Nat.reduceSub, List.append_assoc, eq_self, if_true, if_false, Bool.false_eq_true, decide_eq_true_eq, List.length_cons, List.length_nil]
      refine lcR2 (K := K) (n := n) (by omega) (by omega) (by omega) (by omega) (by omega) (fun i => ptD (spreadI l gap n i)) (fun i _ => rfl) (fun i H1 hi k1 Q' q => ?_) fun D H1 vs hD k1 hd1 ha => k D H1 vs hD k1 hd1 ha
      simp only [tSeq, tIfS, tNext, tRet, tRetN, tAsg, tDrop, tPar, tCons, tNil, tCB, tVar, tC, tOp, rI, rI0, rU, tTest, tB, tTup, tLst, gName, tIf, tAnd, tOr, tNot, tAndV, tOrV, tNotV, tUn, tCall, tChain, tSl, tNoPart, tPart, tBM, tBM0, tDGet, sDPut, tAugS, ipI, tAug, rIxT, rIxL, rMulK, rLenK, rLstK, tTruK, gTup, gCons, gNil, rEq, rNe, scal, tNever, rMulK, rGcd, L2.start, List.map, List.length, List.replicate, List.cons_append, List.nil_append, List.append_nil, List.set, List.set_cons_zero, List.set_cons_succ, List.getElem?_cons_succ, List.getElem?_cons_zero, Option.some.injEq, List.cons.injEq, V.int.injEq, V.str.injEq, V.bl.injEq, V.ref.injEq, and_true, true_and, exists_eq_left, exists_eq_left', exists_eq_right, exists_eq_right', exists_eq, exists_and_left, exists_and_right, and_assoc, exists_false, false_and, and_false, or_false, false_or, reduceCtorEq, Nat.reduceAdd, Nat.reduceSub, List.append_assoc, eq_self, if_true, if_false, Bool.false_eq_true, decide_eq_true_eq, List.length_cons, List.length_nil]
      have ev : atI ws ((gap : Int) - 1) = some v := by rw [show (gap : Int) - 1 = ((gap - 1 : Nat) : Int) by omega]; exact atI_nat hv
      have tk := Tk.of0 k1
      refine ⟨ws, sqT_tk tk hT, v, ev, ws, sqT_tk tk hT, u, atI_nat hu', v, u, _, _, _, _, rfl, dp_tk tk _ _ rfl dv, dp_tk tk _ _ rfl du, hl.ok _ mv, hl.ok _ mu, hl.sz _ mv, hl.sz _ mu, by omega, by omega, by omega, by omega, fun v' H' k' d' => q _ _ k' ?_⟩
      have : spreadI l gap n i = betP (atP l (gap - 1)) (atP l gap) ((i : Int) + 1) ((n : Int) + 1) := by unfold spreadI; rw [if_neg l0, if_neg (by omega), if_neg (by omega)]
      rw [this, show (i : Int) + 1 = 1 + (i : Int) by omega]
      exact d'

end
end G
set_option Elab.async false
set_option linter.all false
set_option maxRecDepth 100000
set_option maxHeartbeats 4000000
set_option exponentiation.threshold 10000
namespace G
open PySem L2 LamX NdefX
section
variable {P : Program} {w : World} {K : PySem.W.Frag} {mg : Str → Option Value} {base : Heap}
/-! ### support -/
def sp_support (K : PySem.W.Frag) (n : Nat) : Sp := fun vs H Q _ => ∃ (v : V) (x : Vl) (b : Nat), vs = [v] ∧ Dp K H v (vlD x) ∧ VOk n b x ∧ b ≤ 4000 ∧ vw x < 1000 ∧
  ∀ (p : Addr) (H' : Hp) (us : List V), Kp M0 H H' → SqT K H' p us → DpAll K H' us ((supV x).map ptD) → Q (.ref p) H'
def SupJ (K : PySem.W.Frag) (v : V) (l : List Vl) (H : Hp) (i : Nat) (σ : L2.St) (H' : Hp) : Prop := ∃ (p : Addr) (us : List V) (v2 : Option V), σ = [some v, some (.ref p), v2] ∧ Kp M0 H H' ∧ SqT K H' p us ∧ DpAll K H' us ((ascP (supVs (l.take i))).map ptD)
theorem st_support (W : Ds K mg) (n : Nat) (ih : FnOk P w K mg base CX0 (n + 4) W.f_support W.fd_support P_support (prevS (sp_support K) n)) : FnOk P w K mg base CX0 (n + 4 + 1) W.f_support W.fd_support P_support (sp_support K n) := by
  refine W.D_support.F.ok sc_support (fun vs H Q E h => ?len) (fun cdv A outer s H vs Q E hr h => ?body)
  case len =>
    obtain ⟨v, x, b, rfl, _⟩ := h
    rfl
  case body =>
    obtain ⟨v, x, b, rfl, dx, ox, hb, hw, k⟩ := h
    have nd := sc_support.nd
    have hu := hu_of hr
    have hu64 := hr.units
    have hu65 := hu65_of hr
    refine ⟨_, (pss_cons (ps_if (pt_val (pe_callB (c_isi K) (by rfl) W.T.b_isinstance (by decide +kernel) (pa_cons (pv 0) (pa_cons (pe_bltn (v := .ty "str") (u := .type "str") (by rfl) W.T.b_str (by decide +kernel) (by rfl)) pa_nil))))
     (pss_one (ps_ret (pe_tup pa_nil)))
     pss_nil)
  (pss_cons (ps_if (pt_cmpR (k_eqD K hu64) (pe_ix (k_ixT K) (pv 0) pe_int (fun _ _ => rfl)) pe_str (nomark _))
     (pss_one (ps_ret (pe_ix (k_ixT K) (pv 0) pe_int (fun _ _ => rfl))))
     pss_nil)
  (pss_cons (ps_if (pt_cmpR (k_neD K hu64) (pe_ix (k_ixT K) (pv 0) pe_int (fun _ _ => rfl)) pe_str (nomark _))
     (pss_one (ps_ret (pe_tup (pa_cons (pv 0) pa_nil))))
     pss_nil)
  (pss_cons (ps_set (i := 1) nd rfl (by first | exact Or.inl rfl | exact Or.inr rfl) (pe_tup pa_nil))
  (pss_cons (ps_for PassesOwn.never rfl (i_tup K (pe_slice (k_slT K) (pv 0) (po_some pe_int) po_none)) (pg_name (i := 2) nd rfl (by first | exact Or.inl rfl | exact Or.inr rfl))
     (pss_one (ps_if (pt_not (pt_val (pe_callB (c_isi K) (by rfl) W.T.b_isinstance (by decide +kernel) (pa_cons (pv 2) (pa_cons (pe_bltn (v := .ty "str") (u := .type "str") (by rfl) W.T.b_str (by decide +kernel) (by rfl)) pa_nil)))))
         (pss_one (ps_set (i := 1) nd rfl (by first | exact Or.inl rfl | exact Or.inr rfl) (pe_call (ok_merged_points W) (hr.mono (by first | decide | omega)) rfl W.D_merged_points.g W.D_merged_points.F.kp W.D_merged_points.b .nil pass0 (pa_cons (pv 1) (pa_cons (pe_call ih (hr.mono (by first | decide | omega)) rfl W.D_support.g W.D_support.F.kp W.D_support.b .nil pass0 (pa_cons (pv 2) pa_nil)) pa_nil)))))
         pss_nil)))
  (pss_one (ps_ret (pv 1)))))))), ?_⟩
    simp only [tSeq, tIfS, tNext, tRet, tRetN, tAsg, tDrop, tPar, tCons, tNil, tCB, tVar, tC, tOp, rI, rI0, rU, tTest, tB, tTup, tLst, gName, tIf, tAnd, tOr, tNot, tAndV, tOrV, tNotV, tUn, tCall, tChain, tSl, tNoPart, tPart, tBM, tBM0, tDGet, sDPut, tAugS, ipI, tAug, rIxT, rIxL, rMulK, rLenK, rLstK, tTruK, gTup, gCons, gNil, rEq, rNe, scal, tNever, rMulK, rGcd, L2.start, List.map, List.length, List.replicate, List.cons_append, List.nil_append, List.append_nil, List.set, List.set_cons_zero, List.set_cons_succ, List.getElem?_cons_succ, List.getElem?_cons_zero, Option.some.injEq, List.cons.injEq, V.int.injEq, V.str.injEq, V.bl.injEq, V.ref.injEq, and_true, true_and, exists_eq_left, exists_eq_left', exists_eq_right, exists_eq_right', exists_eq, exists_and_left, exists_and_right, and_assoc, exists_false, false_and, and_false, or_false, false_or, reduceCtorEq, Nat.reduceAdd, Nat.reduceSub, List.append_assoc, eq_self, if_true, if_false, Bool.false_eq_true, decide_eq_true_eq, List.length_cons, List.length_nil]
    cases x with
    | word s =>
      obtain rfl := dv_word dx
      refine isi_str ⟨_, rfl, ?_⟩
      rw [if_pos rfl]
      exact ⟨by decide, fun p hp => k p _ [] (Kp.new hp) (sqT_mk upd_same) (by rw [supV]; exact .nil)⟩
    | pt y =>
      obtain ⟨a, rfl, ha⟩ := dv_pt dx
      refine isi_no ha ⟨_, rfl, ?_⟩
      rw [if_neg (by simp)]
      refine ⟨a, rfl, _, ha, _, atI_nat (j := 0) rfl, no_int set_ok ⟨_, rfl, ?_⟩⟩
      rw [if_neg (by simp)]
      refine ⟨a, rfl, _, ha, _, atI_nat (j := 0) rfl, neD (.int _) (.str _) (i_shaped _) (str_shaped row_ok) (int_str _ _) ⟨_, rfl, ?_⟩⟩
      rw [if_pos (show (!false) = true from rfl)]
      refine ⟨by decide, fun p hp => k p _ _ (Kp.new hp) (sqT_mk upd_same) ?_⟩
      rw [supV]
      exact dps_one (dp_tk (Tk.new hp) _ _ (ptD_tup _) (by rw [vlD] at dx; exact dx))
    | set ps ms =>
      obtain ⟨t, sp, sm, pw, mw, rfl, ha, hp, dp, hm, dm⟩ := dv_set dx
      refine isi_no ha ⟨_, rfl, ?_⟩
      rw [if_neg (by simp)]
      refine ⟨t, rfl, _, ha, _, atI_nat (j := 0) rfl, is_set ⟨_, rfl, ?_⟩⟩
      rw [if_pos rfl]
      exact ⟨t, rfl, _, ha, _, atI_nat (j := 1) rfl, k sp H pw (Kp.refl H) hp (by rw [supV]; exact dp)⟩
    | row l =>
      obtain ⟨a, ws, rfl, ha, da⟩ := dv_row dx
      refine isi_no ha ⟨_, rfl, ?_⟩
      rw [if_neg (by simp)]
      refine ⟨a, rfl, _, ha, _, atI_nat (j := 0) rfl, no_set ⟨_, rfl, ?_⟩⟩
      rw [if_neg (by simp)]
      refine ⟨a, rfl, _, ha, _, atI_nat (j := 0) rfl, neD (.str _) (.str _) (str_shaped row_ok) (str_shaped row_ok) row_row ⟨_, rfl, ?_⟩⟩
      rw [if_neg (by simp)]
      cases ox with
      | @row n b vs h0 ol =>
        have wl : ws.length = l.length := by rw [dps_len da, List.length_map]
        rw [vw] at hw
        refine ⟨by decide, fun p hp => tforT ?_⟩
        simp only [tSeq, tIfS, tNext, tRet, tRetN, tAsg, tDrop, tPar, tCons, tNil, tCB, tVar, tC, tOp, rI, rI0, rU, tTest, tB, tTup, tLst, gName, tIf, tAnd, tOr, tNot, tAndV, tOrV, tNotV, tUn, tCall, tChain, tSl, tNoPart, tPart, tBM, tBM0, tDGet, sDPut, tAugS, ipI, tAug, rIxT, rIxL, rMulK, rLenK, rLstK, tTruK, gTup, gCons, gNil, rEq, rNe, scal, tNever, rMulK, rGcd, L2.start, List.map, List.length, List.replicate, List.cons_append, List.nil_append, List.append_nil, List.set, List.set_cons_zero, List.set_cons_succ, List.getElem?_cons_succ, List.getElem?_cons_zero, Option.some.injEq, List.cons.injEq, V.int.injEq, V.str.injEq, V.bl.injEq, V.ref.injEq, and_true, true_and, exists_eq_left, exists_eq_left', exists_eq_right, exists_eq_right', exists_eq, exists_and_left, exists_and_right, and_assoc, exists_false, false_and, and_false, or_false, false_or, reduceCtorEq, Nat.reduceAdd, Nat.reduceSub, List.append_assoc, eq_self, if_true, if_false, Bool.false_eq_true, decide_eq_true_eq, List.length_cons, List.length_nil]
        refine slRest (sqT_tk (Tk.new hp) ha) fun t ht => ⟨t, rfl, ⟨ws, sqT_mk upd_same⟩, ?_⟩
        have kt : Kp M0 H (upd (upd H p (.tup [])) t (.tup ws)) := (Kp.new hp).trans (Kp.new ht)
        refine for_tup (K := K) (a := t) (xs := ws) (fun i σ H' => SupJ K (.ref a) l H i σ H' ∧ SqT K H' t ws) ⟨⟨p, [], none, rfl, kt, sqT_mk (by rw [upd_ne (ne_of_none upd_same ht)]; exact upd_same), by rw [List.take_zero, supVs]; exact .nil⟩, sqT_mk upd_same⟩ (fun i σ H' _ h => h.2) ?_ ?_
        · rintro i y σ H' hi ⟨⟨p, us, v2, rfl, k1, hp', hus⟩, st⟩
          simp only [tSeq, tIfS, tNext, tRet, tRetN, tAsg, tDrop, tPar, tCons, tNil, tCB, tVar, tC, tOp, rI, rI0, rU, tTest, tB, tTup, tLst, gName, tIf, tAnd, tOr, tNot, tAndV, tOrV, tNotV, tUn, tCall, tChain, tSl, tNoPart, tPart, tBM, tBM0, tDGet, sDPut, tAugS, ipI, tAug, rIxT, rIxL, rMulK, rLenK, rLstK, tTruK, gTup, gCons, gNil, rEq, rNe, scal, tNever, rMulK, rGcd, L2.start, List.map, List.length, List.replicate, List.cons_append, List.nil_append, List.append_nil, List.set, List.set_cons_zero, List.set_cons_succ, List.getElem?_cons_succ, List.getElem?_cons_zero, Option.some.injEq, List.cons.injEq, V.int.injEq, V.str.injEq, V.bl.injEq, V.ref.injEq, and_true, true_and, exists_eq_left, exists_eq_left', exists_eq_right, exists_eq_right', exists_eq, exists_and_left, exists_and_right, and_assoc, exists_false, false_and, and_false, or_false, false_or, reduceCtorEq, Nat.reduceAdd, Nat.reduceSub, List.append_assoc, eq_self, if_true, if_false, Bool.false_eq_true, decide_eq_true_eq, List.length_cons, List.length_nil]
          obtain ⟨d, e1, dy⟩ := dps_get (dvs_tk da (Tk.of0 k1)) hi
          rw [List.getElem?_map] at e1
          cases e2 : l[i]? with
          | none => rw [e2] at e1; cases e1
          | some z =>
            rw [e2] at e1
            cases e1
            have mz := List.mem_of_getElem? e2
            have oz := ol z mz
            have wz := vw_mem mz
            have snoc : supVs (l.take (i + 1)) = supVs (l.take i) ++ supV z := by rw [take_snoc e2, supVs_snoc]
            have olt : ∀ v ∈ l.take i, VOk n b v := fun v hv => ol v (List.mem_of_mem_take hv)
            have alt := asc_ok (sups_ok olt)
            have s1 := sups_len olt
            have s0 := asc_le (sups_ok olt)
            have s2 := sup_len oz
            have s3 : vws (l.take i) ≤ vws l := by
              conv => rhs; rw [← List.take_append_drop i l, vws_app]
              omega
            by_cases isw : ∃ s, z = .word s
            · obtain ⟨s, rfl⟩ := isw
              obtain rfl := dv_word dy
              refine isi_str ⟨_, rfl, ?_⟩
              rw [if_neg (by simp)]
              refine ⟨⟨p, us, _, rfl, k1, hp', ?_⟩, st⟩
              rw [snoc, supV, List.append_nil]; exact hus
            · have notw : ∃ q zs, y = .ref q ∧ SqT K H' q zs := by
                cases z with
                | word s => exact absurd ⟨s, rfl⟩ isw
                | pt x => obtain ⟨q, rfl, hq⟩ := dv_pt dy; exact ⟨q, _, rfl, hq⟩
                | row l => obtain ⟨q, zs, rfl, hq, _⟩ := dv_row dy; exact ⟨q, _, rfl, hq⟩
                | set ps ms => obtain ⟨q, _, _, _, _, rfl, hq, _⟩ := dv_set dy; exact ⟨q, _, rfl, hq⟩
              obtain ⟨q, zs, rfl, hq⟩ := notw
              refine isi_no hq ⟨_, rfl, ?_⟩
              rw [if_pos (by simp)]
              refine ⟨.ref q, z, b, rfl, dy, oz, hb, by omega, fun p2 H2 us2 k2 hp2 du2 => ?_⟩
              refine ⟨p, p2, us, us2, _, supV z, b, rfl, sqT_tk (Tk.of0 k2) hp', hp2, pts_tk hus (Tk.of0 k2), du2, alt, sup_ok oz, hb, by omega, by omega, fun p3 H3 us3 r k3 hp3 du3 or hr3 => ?_⟩
              have kk := k2.trans k3
              refine ⟨⟨p3, us3, _, rfl, k1.trans kk, hp3, ?_⟩, sqT_tk (Tk.of0 kk) st⟩
              have olt1 : ∀ v ∈ l.take (i + 1), VOk n b v := fun v hv => ol v (List.mem_of_mem_take hv)
              have e : ascP (supVs (l.take (i + 1))) = r := by
                refine asc_ext (asc_ok (sups_ok olt1)).ok (asc_ok (sups_ok olt1)).asc or.asc fun x => ?_
                rw [asc_mem (sups_ok olt1), hr3, asc_mem (sups_ok olt), snoc, List.mem_append]
              rw [e]; exact du3
        · rintro σ H' ⟨⟨p, us, v2, rfl, k1, hp', hus⟩, st⟩
          simp only [tSeq, tIfS, tNext, tRet, tRetN, tAsg, tDrop, tPar, tCons, tNil, tCB, tVar, tC, tOp, rI, rI0, rU, tTest, tB, tTup, tLst, gName, tIf, tAnd, tOr, tNot, tAndV, tOrV, tNotV, tUn, tCall, tChain, tSl, tNoPart, tPart, tBM, tBM0, tDGet, sDPut, tAugS, ipI, tAug, rIxT, rIxL, rMulK, rLenK, rLstK, tTruK, gTup, gCons, gNil, rEq, rNe, scal, tNever, rMulK, rGcd, L2.start, List.map, List.length, List.replicate, List.cons_append, List.nil_append, List.append_nil, List.set, List.set_cons_zero, List.set_cons_succ, List.getElem?_cons_succ, List.getElem?_cons_zero, Option.some.injEq, List.cons.injEq, V.int.injEq, V.str.injEq, V.bl.injEq, V.ref.injEq, and_true, true_and, exists_eq_left, exists_eq_left', exists_eq_right, exists_eq_right', exists_eq, exists_and_left, exists_and_right, and_assoc, exists_false, false_and, and_false, or_false, false_or, reduceCtorEq, Nat.reduceAdd, Nat.reduceSub, List.append_assoc, eq_self, if_true, if_false, Bool.false_eq_true, decide_eq_true_eq, List.length_cons, List.length_nil]
          rw [wl, List.take_length] at hus
          exact k p H' us k1 hp' (by rw [supV]; exact hus)
theorem ok_support (W : Ds K mg) : ∀ n : Nat, FnOk P w K mg base CX0 (n + 5) W.f_support W.fd_support P_support (sp_support K n)
  | 0 => st_support W 0 fnOk_false
  | n + 1 => st_support W (n + 1) (ok_support W n)
end
end G
set_option Elab.async false
set_option linter.all false
set_option maxRecDepth 100000
/-! what a move does to points: plain mathematics -/
namespace G
open PySem L2
theorem less_perm {l m : List Pt} (h : l.Perm m) (y : Pt) : lessN l y = lessN m y := (h.filter _).length_eq
theorem less_app (l m : List Pt) (y : Pt) : lessN (l ++ m) y = lessN l y + lessN m y := by unfold lessN; rw [List.filter_append, List.length_append]
/-- the place of a point in an ascending row is how many are less -/
theorem idx_less {l : List Pt} (h : Asc l) {y : Pt} (m : y ∈ l) : l.idxOf y = lessN l y := by
  have hi : l.idxOf y < l.length := List.idxOf_lt_length_of_mem m
  have e : l[l.idxOf y]? = some y := by rw [List.getElem?_eq_getElem hi, List.getElem_idxOf]
  refine (lessN_eq (by omega) (fun i x hi' hx => asc_get h hi' hx e) (fun i x hi' hx z => ?_)).symm
  by_cases q : i = l.idxOf y
  · rw [q, e] at hx; cases hx; exact lt_irrefl _ z
  · exact lt_asymm (asc_get h (by omega) e hx) z
theorem less_at {l : List Pt} (h : Asc l) {k : Nat} {y : Pt} (e : l[k]? = some y) : lessN l y = k := by
  refine lessN_eq (by have := (List.getElem?_eq_some_iff.mp e).1; omega) (fun i x hi' hx => asc_get h hi' hx e) (fun i x hi' hx z => ?_)
  by_cases q : i = k
  · rw [q, e] at hx; cases hx; exact lt_irrefl _ z
  · exact lt_asymm (asc_get h (by omega) e hx) z
theorem perm_of_nodup {l m : List Pt} (hl : l.Nodup) (hm : m.Nodup) (h : ∀ y, y ∈ l ↔ y ∈ m) : l.Perm m := (List.perm_ext_iff_of_nodup hl hm).mpr h
theorem asc_perm {b : Nat} {l : List Pt} (h : ∀ x ∈ l, PtOk x ∧ Sz b x) (nd : l.Nodup) : (ascP l).Perm l := perm_of_nodup (asc_ok h).asc.nodup nd (asc_mem h)
/-- counts of gaps tell how many points are less -/
theorem count_le (f g : Pt → Nat) (l m : List Pt) : ∀ k : Nat, (∀ j, j ≤ k → (l.filter fun x => decide (f x = j)).length = (m.filter fun x => decide (g x = j)).length) →
    (l.filter fun x => decide (f x ≤ k)).length = (m.filter fun x => decide (g x ≤ k)).length := by
  have split : ∀ (f : Pt → Nat) (l : List Pt) (k : Nat), (l.filter fun x => decide (f x ≤ k + 1)).length = (l.filter fun x => decide (f x ≤ k)).length + (l.filter fun x => decide (f x = k + 1)).length := by
    intro f l k
    induction l with
    | nil => rfl
    | cons x l ih =>
      by_cases a : f x ≤ k
      · rw [List.filter_cons_of_pos (by simp; omega), List.filter_cons_of_pos (by simp; omega), List.filter_cons_of_neg (by simp; omega), List.length_cons, List.length_cons]; omega
      · by_cases b : f x = k + 1
        · rw [List.filter_cons_of_pos (by simp; omega), List.filter_cons_of_neg (by simp; omega), List.filter_cons_of_pos (by simp; omega), List.length_cons, List.length_cons]; omega
        · rw [List.filter_cons_of_neg (by simp; omega), List.filter_cons_of_neg (by simp; omega), List.filter_cons_of_neg (by simp; omega)]; omega
  intro k
  induction k with
  | zero =>
    intro h
    have := h 0 (Nat.le_refl _)
    simpa using this
  | succ k ih =>
    intro h
    rw [split, split, ih fun j hj => h j (by omega), h (k + 1) (Nat.le_refl _)]
/-- what is less than the k-th point lies in one of the gaps to k -/
theorem lt_gap {b : Nat} {ps : List Pt} {x y : Pt} {k : Nat} (hp : PtsOk b ps) (hx : PtOk x) (no : x ∉ ps) (e : ps[k]? = some y) : ltP x y ↔ lessN ps x ≤ k := by
  obtain ⟨h1, h2⟩ := less_gap hp hx
  constructor
  · intro h
    by_cases z : lessN ps x ≤ k
    · exact z
    · exact absurd (h1 k y (by omega) e) (lt_asymm h)
  · intro h
    rcases lt_tri hx (hp.ok y (List.mem_of_getElem? e)) with z | z | z
    · exact z
    · subst z; exact absurd (List.mem_of_getElem? e) no
    · exact absurd z (h2 k y h e)
theorem gaps_snocA (ps news fs : List Pt) (k : Nat) : gapsP ps news fs (k + 1) = gapsP ps news fs k ++ spreadP news k (gapN ps fs k) := by
  unfold gapsP
  rw [List.range_succ, List.flatMap_append]
  simp
theorem gapN_app (ps a b : List Pt) (g : Nat) : gapN ps (a ++ b) g = gapN ps a g + gapN ps b g := by unfold gapN; rw [List.filter_append, List.length_append]
theorem gapN_spread {b : Nat} {ps : List Pt} {g n : Nat} (hp : PtsOk b ps) (hg : g ≤ ps.length) (hn : n < 1000) (j : Nat) : gapN ps (spreadP ps g n) j = if j = g then n else 0 := by
  unfold gapN
  have e : ∀ x ∈ spreadP ps g n, lessN ps x = g := fun x hx => by
    obtain ⟨i, hi, rfl⟩ := spread_mem hx
    exact less_spread hp hg hn hi
  by_cases c : j = g
  · rw [if_pos c, List.filter_eq_self.mpr fun x hx => decide_eq_true (by rw [e x hx, c])]
    simp [spreadP]
  · rw [if_neg c, List.filter_eq_nil_iff.mpr fun x hx => by rw [e x hx]; simp; omega]
    rfl
/-- the places that are spread have the counts that were asked -/
theorem gapN_gaps {b : Nat} {ps news fs : List Pt} (hn : PtsOk b news) (hf : fs.length < 1000) (j : Nat) : ∀ k, k ≤ news.length + 1 → gapN news (gapsP ps news fs k) j = if j < k then gapN ps fs j else 0
  | 0, _ => by simp [gapsP, gapN]
  | k + 1, hk => by
    have c := gapN_le ps fs k
    rw [gaps_snocA, gapN_app, gapN_gaps hn hf j k (by omega), gapN_spread hn (by omega) (by omega)]
    by_cases z : j < k
    · rw [if_pos z, if_neg (by omega), if_pos (by omega)]; omega
    · by_cases y : j = k
      · subst y; rw [if_neg (by omega), if_pos rfl, if_pos (by omega)]; omega
      · rw [if_neg z, if_neg y, if_neg (by omega)]
/-- a move of rows of one length, rising -/
structure MvOk (a b : Nat) (olds news : List Pt) : Prop where
  o : PtsOk a olds
  n : PtsOk b news
  l : olds.length = news.length
section
variable {a b : Nat} {olds news : List Pt}
theorem MvOk.mem (h : MvOk a b olds news) {x : Pt} (hx : x ∈ olds) : leadP olds news x ∈ news := List.mem_of_getElem? (lead_at hx h.l).2.2
theorem MvOk.ok (h : MvOk a b olds news) {x : Pt} (hx : x ∈ olds) : PtOk (leadP olds news x) := h.n.ok _ (h.mem hx)
theorem MvOk.lt (h : MvOk a b olds news) {x y : Pt} (hx : x ∈ olds) (hy : y ∈ olds) (hxy : ltP x y) : ltP (leadP olds news x) (leadP olds news y) := by
  obtain ⟨a1, a2, a3⟩ := lead_at hx h.l
  obtain ⟨b1, b2, b3⟩ := lead_at hy h.l
  have lt : olds.idxOf x < olds.idxOf y := by
    rcases Nat.lt_trichotomy (olds.idxOf x) (olds.idxOf y) with z | z | z
    · exact z
    · rw [z, b2] at a2; cases a2; exact absurd hxy (lt_irrefl _)
    · exact absurd hxy (lt_asymm (asc_get h.o.asc z b2 a2))
  exact asc_get h.n.asc lt a3 b3
theorem MvOk.iff (h : MvOk a b olds news) {x y : Pt} (hx : x ∈ olds) (hy : y ∈ olds) : ltP (leadP olds news x) (leadP olds news y) ↔ ltP x y := by
  refine ⟨fun q => ?_, h.lt hx hy⟩
  rcases lt_tri (h.o.ok x hx) (h.o.ok y hy) with z | z | z
  · exact z
  · subst z; exact absurd q (lt_irrefl _)
  · exact absurd q (lt_asymm (h.lt hy hx z))
theorem MvOk.inj (h : MvOk a b olds news) {x y : Pt} (hx : x ∈ olds) (hy : y ∈ olds) (e : leadP olds news x = leadP olds news y) : x = y := by
  rcases lt_tri (h.o.ok x hx) (h.o.ok y hy) with z | z | z
  · exact absurd (h.lt hx hy z) (by rw [e]; exact lt_irrefl _)
  · exact z
  · exact absurd (h.lt hy hx z) (by rw [e]; exact lt_irrefl _)
theorem MvOk.at_ (h : MvOk a b olds news) {k : Nat} {x : Pt} (e : olds[k]? = some x) : news[k]? = some (leadP olds news x) := by
  have m := List.mem_of_getElem? e
  have := (lead_at m h.l).2.2
  rwa [idx_less h.o.asc m, less_at h.o.asc e] at this
theorem MvOk.onto (h : MvOk a b olds news) {y : Pt} (hy : y ∈ news) : ∃ x ∈ olds, leadP olds news x = y := by
  obtain ⟨k, hk⟩ := List.getElem?_of_mem hy
  have lt := (List.getElem?_eq_some_iff.mp hk).1
  have lo : k < olds.length := by rw [h.l]; exact lt
  have e : olds[k]? = some olds[k] := List.getElem?_eq_getElem lo
  have := h.at_ e
  rw [hk] at this
  exact ⟨_, List.mem_of_getElem? e, (Option.some.inj this).symm⟩
theorem MvOk.map (h : MvOk a b olds news) : olds.map (leadP olds news) = news := by
  apply List.ext_getElem?
  intro k
  rw [List.getElem?_map]
  cases e : olds[k]? with
  | none => rw [List.getElem?_eq_none_iff] at e; rw [h.l] at e; rw [List.getElem?_eq_none e]; rfl
  | some x => rw [h.at_ e]; rfl
/-- a rising map of rows leads the k-th point of a part to the k-th -/
theorem MvOk.asc (h : MvOk a b olds news) {l : List Pt} (hl : Asc l) (hs : ∀ x ∈ l, x ∈ olds) : Asc (l.map (leadP olds news)) := (lead_ok h.o h.n h.l hl hs).asc
/-- in which gap a point is led -/
theorem MvOk.less (h : MvOk a b olds news) {l : List Pt} {x : Pt} (hs : ∀ y ∈ l, y ∈ olds) (hx : x ∈ olds) : lessN (l.map (leadP olds news)) (leadP olds news x) = lessN l x := by
  unfold lessN
  rw [List.filter_map, List.length_map]
  congr 1
  apply List.filter_congr
  intro y hy
  show decide _ = decide _
  rw [decide_eq_decide]
  exact h.iff (hs y hy) hx
end
theorem EndsOk.mv {bo b : Nat} {olds news fs : List Pt} (e : EndsOk bo b olds news fs) : MvOk bo (gB b) (endsP olds news fs).1 (endsP olds news fs).2 := ⟨e.o1, e.o2, e.len⟩
/-- the ends of a move lead the points themselves as they are told -/
theorem ends_lead {bo b : Nat} {olds news fs : List Pt} (ho : PtsOk bo olds) (hn : PtsOk b news) (hl : olds.length = news.length) (hf : ∀ x ∈ fs, PtOk x ∧ Sz bo x) (nd : fs.Nodup) (no : ∀ x ∈ fs, x ∉ olds) (hc : fs.length < 1000) {k : Nat} {p : Pt} (e : olds[k]? = some p) :
    leadP (endsP olds news fs).1 (endsP olds news fs).2 p = atP news k := by
  have E := ends_ok ho hn hl hf nd no hc
  have lt := (List.getElem?_eq_some_iff.mp e).1
  have e2 := atP_some (l := news) (i := k) (by omega)
  obtain ⟨g1, g2⟩ := gaps_ok (ps := olds) (fs := fs) (k := olds.length + 1) hn (by omega) hc
  have bb : b ≤ gB b := by unfold gB; omega
  have all1 : ∀ x ∈ olds ++ fs, PtOk x ∧ Sz bo x := fun x hx => by
    rcases List.mem_append.mp hx with z | z
    · exact ⟨ho.ok x z, ho.sz x z⟩
    · exact hf x z
  have all2 : ∀ x ∈ news ++ gapsP olds news fs (olds.length + 1), PtOk x ∧ Sz (gB b) x := fun x hx => by
    rcases List.mem_append.mp hx with z | z
    · exact ⟨hn.ok x z, (hn.sz x z).mono bb⟩
    · exact ⟨(g2 x z).1, (g2 x z).2.1⟩
  have nd1 : (olds ++ fs).Nodup := List.nodup_append.mpr ⟨ho.asc.nodup, nd, fun x hx y hy e => no y hy (e ▸ hx)⟩
  have nd2 : (news ++ gapsP olds news fs (olds.length + 1)).Nodup := List.nodup_append.mpr ⟨hn.asc.nodup, g1.nodup, fun x hx y hy e => (g2 y hy).2.2 (e ▸ hx)⟩
  have mp : p ∈ olds := List.mem_of_getElem? e
  have mq : atP news k ∈ news := List.mem_of_getElem? e2
  have i1 : (endsP olds news fs).1.idxOf p = k + lessN fs p := by
    rw [idx_less E.o1.asc ((E.m1 p).mpr (.inl mp))]
    show lessN (ascP _) p = _
    rw [less_perm (asc_perm all1 nd1), less_app, less_at ho.asc e]
  have i2 : (endsP olds news fs).2.idxOf (atP news k) = k + lessN (gapsP olds news fs (olds.length + 1)) (atP news k) := by
    rw [idx_less E.o2.asc (E.m2 _ mq)]
    show lessN (ascP _) _ = _
    rw [less_perm (asc_perm all2 nd2), less_app, less_at hn.asc e2]
  have same : lessN fs p = lessN (gapsP olds news fs (olds.length + 1)) (atP news k) := by
    have f1 : lessN fs p = (fs.filter fun x => decide (lessN olds x ≤ k)).length := by
      unfold lessN
      congr 1
      apply List.filter_congr
      intro x hx
      rw [decide_eq_decide]
      exact lt_gap ho (hf x hx).1 (no x hx) e
    have f2 : lessN (gapsP olds news fs (olds.length + 1)) (atP news k) = ((gapsP olds news fs (olds.length + 1)).filter fun x => decide (lessN news x ≤ k)).length := by
      conv => lhs; unfold lessN
      congr 1
      apply List.filter_congr
      intro x hx
      rw [decide_eq_decide]
      exact lt_gap hn (g2 x hx).1 (g2 x hx).2.2 e2
    rw [f1, f2]
    refine count_le _ _ _ _ k fun j hj => ?_
    have := gapN_gaps (ps := olds) (fs := fs) hn hc j (olds.length + 1) (by omega)
    rw [if_pos (by omega)] at this
    exact this.symm
  have r := lead_at (olds := (endsP olds news fs).1) (news := (endsP olds news fs).2) ((E.m1 p).mpr (.inl mp)) E.len
  have r2 := lead_at (olds := (endsP olds news fs).2) (news := (endsP olds news fs).1) (E.m2 _ mq) E.len.symm
  have e3 := r.2.2
  rw [i1, same, ← i2, r2.2.1] at e3
  exact (Option.some.inj e3).symm
/-! ### what a led value hangs on -/
theorem sup_moved {n bo : Nat} {v : Vl} (h : VOk n bo v) : ∀ {b c : Nat} {olds news : List Pt}, MvOk c b olds news → (∀ x ∈ supV v, x ∈ olds) → vw v < 1000 → supV (movedV v olds news) = (supV v).map (leadP olds news) := by
  induction h with
  | word h o => intros; rw [movedV]; rfl
  | pt h s => intros; rw [movedV]; rfl
  | @row n bo vs h0 h ih =>
    intro b c olds news M hs hw
    have mo := moved_ok (.row h0 h) M.o M.n M.l hs hw
    rw [movedV, movedVs_map] at mo ⊢
    rw [supV] at hs ⊢
    rw [supV]
    rw [vw] at hw
    have sub : ∀ v ∈ vs, ∀ x ∈ supV v, x ∈ olds := fun v hv x hx => hs x ((asc_mem (sups_ok h) x).mpr (supVs_mem.mpr ⟨v, hv, hx⟩))
    have each : ∀ v ∈ vs, supV (movedV v olds news) = (supV v).map (leadP olds news) := fun v hv => ih v hv M (sub v hv) (by have := vw_mem hv; omega)
    have os := asc_ok (sups_ok h)
    have hs' : ∀ x ∈ ascP (supVs vs), x ∈ olds := hs
    have all : ∀ x ∈ supVs (vs.map fun v => movedV v olds news), PtOk x ∧ Sz b x := fun x hx => by
      obtain ⟨u, hu, hx⟩ := supVs_mem.mp hx
      obtain ⟨v, hv, rfl⟩ := List.mem_map.mp hu
      rw [each v hv] at hx
      obtain ⟨y, hy, rfl⟩ := List.mem_map.mp hx
      have := M.mem (sub v hv y hy)
      exact ⟨M.n.ok _ this, M.n.sz _ this⟩
    refine asc_ext (asc_ok all).ok (asc_ok all).asc (M.asc os.asc hs') fun y => ?_
    rw [asc_mem all]
    constructor
    · intro hy
      obtain ⟨u, hu, hx⟩ := supVs_mem.mp hy
      obtain ⟨v, hv, rfl⟩ := List.mem_map.mp hu
      rw [each v hv] at hx
      obtain ⟨z, hz, rfl⟩ := List.mem_map.mp hx
      exact List.mem_map.mpr ⟨z, (asc_mem (sups_ok h) z).mpr (supVs_mem.mpr ⟨v, hv, hz⟩), rfl⟩
    · intro hy
      obtain ⟨z, hz, rfl⟩ := List.mem_map.mp hy
      obtain ⟨v, hv, hx⟩ := supVs_mem.mp ((asc_mem (sups_ok h) z).mp hz)
      exact supVs_mem.mpr ⟨_, List.mem_map.mpr ⟨v, hv, rfl⟩, by rw [each v hv]; exact List.mem_map.mpr ⟨z, hx, rfl⟩⟩
  | set hp h ih => intro b c olds news M hs hw; rw [movedV, supV, supV]
/-! ### placed values -/
theorem rest_ok {n b bo : Nat} {v : Vl} {points : List Pt} (h : VOk n bo v) (hp : PtsOk b points) (hw : vw v < 1000) : EndsOk (max b bo) b points points (restP points (supV v)) ∧
    (∀ (k : Nat) (p : Pt), points[k]? = some p → leadP (endsP points points (restP points (supV v))).1 (endsP points points (restP points (supV v))).2 p = p) := by
  have so := sup_ok h
  have hf : ∀ x ∈ restP points (supV v), PtOk x ∧ Sz (max b bo) x := fun x hx => by
    have := (List.mem_filter.mp hx).1
    exact ⟨so.ok x this, (so.sz x this).mono (Nat.le_max_right _ _)⟩
  have nd : (restP points (supV v)).Nodup := so.asc.nodup.sublist List.filter_sublist
  have no : ∀ x ∈ restP points (supV v), x ∉ points := fun x hx => of_decide_eq_true (List.mem_filter.mp hx).2
  have hc : (restP points (supV v)).length < 1000 := Nat.lt_of_le_of_lt (Nat.le_trans (List.length_filter_le _ _) (sup_len h)) hw
  refine ⟨ends_ok (hp.mono (Nat.le_max_left _ _)) hp rfl hf nd no hc, fun k p e => ?_⟩
  rw [ends_lead (hp.mono (Nat.le_max_left _ _)) hp rfl hf nd no hc e]
  have lt := (List.getElem?_eq_some_iff.mp e).1
  have := atP_some (l := points) (i := k) lt
  rw [e] at this
  exact (Option.some.inj this).symm
def shapeP (points l : List Pt) : List Nat := (List.range (points.length + 1)).map (gapN points (restP points l))
theorem shape_len (points l : List Pt) : (shapeP points l).length = points.length + 1 := by simp [shapeP]
theorem shape_sum (points l : List Pt) : (shapeP points l).sum = (restP points l).length := gapN_sum points _ _ fun x _ => Nat.lt_succ_of_le less_le
theorem rest_nil (l : List Pt) : restP [] l = l := List.filter_eq_self.mpr fun x _ => by simp
theorem shape_nil (l : List Pt) : shapeP [] l = [l.length] := by
  unfold shapeP gapN
  rw [rest_nil]
  have : l.filter (fun x => decide (lessN [] x = 0)) = l := List.filter_eq_self.mpr fun x _ => by simp [lessN]
  simp [this]
/-- led by a move that keeps the points -/
theorem shape_led {a b : Nat} {points olds news l : List Pt} (M : MvOk a b olds news) (sub : ∀ p ∈ points, p ∈ olds) (fix : ∀ p ∈ points, leadP olds news p = p) (hl : ∀ x ∈ l, x ∈ olds) : shapeP points (l.map (leadP olds news)) = shapeP points l := by
  have e : restP points (l.map (leadP olds news)) = (restP points l).map (leadP olds news) := by
    unfold restP
    rw [List.filter_map]
    congr 1
    apply List.filter_congr
    intro x hx
    show decide _ = decide _
    rw [decide_eq_decide]
    refine not_congr ⟨fun h => ?_, fun h => by rw [fix x h]; exact h⟩
    have := M.inj (hl x hx) (sub _ h) (fix _ h).symm
    rw [this]; exact h
  have pm : points.map (leadP olds news) = points := by
    conv => rhs; rw [← List.map_id points]
    exact List.map_congr_left fun p hp => fix p hp
  unfold shapeP
  apply List.map_congr_left
  intro g _
  rw [e]
  unfold gapN
  rw [List.filter_map, List.length_map]
  congr 1
  apply List.filter_congr
  intro x hx
  show decide _ = decide _
  rw [decide_eq_decide]
  have := M.less sub (hl x (List.mem_filter.mp hx).1)
  rw [pm] at this
  rw [this]
theorem shape_placed {n b bo : Nat} {v : Vl} {points : List Pt} (h : VOk n bo v) (hp : PtsOk b points) (hw : vw v < 1000) : shapeP points (supV (placedV v points)) = shapeP points (supV v) := by
  obtain ⟨e, fix⟩ := rest_ok h hp hw
  unfold placedV
  have sub : ∀ x ∈ supV v, x ∈ (endsP points points (restP points (supV v))).1 := fun x hx => (e.m1 x).mpr (rest_in hx)
  rw [sup_moved h e.mv sub hw]
  refine shape_led e.mv (fun p hp => (e.m1 p).mpr (.inl hp)) (fun p hp => ?_) sub
  obtain ⟨k, hk⟩ := List.getElem?_of_mem hp
  exact fix k p hk
/-! ### codes counted -/
theorem code_gap {b : Nat} {points : List Pt} {x : Pt} (hp : PtsOk b points) (hx : PtOk x) (g : Nat) : codeP points x = 2 * g ↔ (x ∉ points ∧ lessN points x = g) := by
  have lt : points[lessN points x]? = some x ↔ x ∈ points := by
    constructor
    · exact fun h => List.mem_of_getElem? h
    · intro h
      obtain ⟨k, hk⟩ := List.getElem?_of_mem h
      rw [less_at hp.asc hk]; exact hk
  unfold codeP
  by_cases m : x ∈ points
  · rw [if_pos (lt.mpr m)]
    constructor
    · intro h; omega
    · intro h; exact absurd m h.1
  · rw [if_neg fun z => m (lt.mp z)]
    constructor
    · intro h; exact ⟨m, by omega⟩
    · intro h; omega
theorem code_count {b : Nat} {points l : List Pt} (hp : PtsOk b points) (hl : ∀ x ∈ l, PtOk x) (g : Nat) : (l.filter fun x => decide (codeP points x = 2 * g)).length = gapN points (restP points l) g := by
  unfold gapN restP
  rw [List.filter_filter]
  congr 1
  apply List.filter_congr
  intro x hx
  have := code_gap hp (hl x hx) g
  by_cases z : codeP points x = 2 * g
  · have q := this.mp z
    simp [z, q.1, q.2]
  · have q := fun a b => z (this.mpr ⟨a, b⟩)
    simp only [z, decide_false]
    by_cases y : x ∈ points
    · simp [y]
    · have := q y
      simp [y, this]
      exact this
end G
set_option Elab.async false
set_option linter.all false
set_option maxRecDepth 100000
set_option maxHeartbeats 4000000
/-! rules: sum over a tuple, (x,) * k, xs[i] += e, comprehensions whose test changes things -/
namespace G
open PySem L2 PySem.Spec PyProof.Rows
section
variable {prog : Program} {w : World} {A : Around} {E : Value → Shared → Prop} {s : Shared} {l : Addr} {its : List Value} {ns : List Int} {Q : Value → Shared → Prop}
theorem sum_tup (hh : A.handled = none) (hl : s.heap.IsTuple l its.toArray) (hi : IntsAre its ns)
    (h : ∀ h' tk t', (∀ b o, s.heap.get? b = some o → h'.get? b = some o) → Q (.int ns.sum t') { s with heap := h', toks := tk }) : wpAny (model prog w) A (call (.builtin "sum") [.ref l]) Q E s := by
  obtain ⟨xs, e⟩ := hi.allInts.items
  have hn : numsOf (intItems xs).toList = ns := by rw [← e]; exact hi.numsOf
  rw [nums_intItems] at hn
  rw [e] at hl
  have hlt : l < s.heap.objs.size := by obtain ⟨_, e, _⟩ := hl; exact Heap.lt_size e
  refine call_sum_walkG (wpAny_pyIter_tuple hl ?_)
  refine ⟨_, _, _, _, _, _, numAt xs, rfl, Walks.tuple (A := A.in1) hh _ l (Nat.ne_of_lt hlt) (intItems xs), ⟨⟨_, Heap.get?_push_size _ rfl, rfl, rfl⟩, hl.push _⟩, (fun b hb => ?_), (fun _ _ => intItems_at), fun h' tk t' hk => ?_⟩
  · show b < (s.heap.push _).objs.size
    rw [Heap.size_push]
    rcases List.mem_cons.mp hb with rfl | hb
    · exact Nat.lt_succ_self _
    · rcases List.mem_cons.mp hb with rfl | hb
      · exact Nat.lt_succ_of_lt hlt
      · cases hb
  · have z := h h' tk t' fun b o e => hk b o (by simp; exact Nat.ne_of_lt (Heap.lt_size e)) (Heap.get?_push_of_some _ e)
    have e2 : (intItems xs).size = xs.size := by simp [intItems]
    rw [e2, preSum_eq, List.take_of_length_le (by simp), hn]; exact z
end
section
variable {X : Cx}
def rSumT (K : PySem.W.Frag) : List V → Hp → VK → Prop := fun vs H Q => ∃ (a : Addr) (ns : List Int), vs = [V.ref a] ∧ SqT K H a (ns.map V.int) ∧ Q (.int ns.sum) H
theorem c_sumT (K : PySem.W.Frag) (hc : X.calm = true) (h : X.K = K := by rfl) : CallR X (.builtin "sum") (rSumT K) := by
  subst h
  intro pins s σ H vs us Q I r h
  obtain ⟨a, ns, rfl, hs, q⟩ := h
  obtain ⟨its, rv, hl, _⟩ := I.tuple hs
  rw [Vals.ref1 r]
  exact sum_tup (I.ok.hd hc) hl rv.ints fun h' tk t' hk => ⟨.int _, H, I.kept hk, ⟨_, rfl⟩, q⟩
/-! ### (x, ..) * k -/
theorem tuple_mul0 (l : Addr) (items : Array Value) (n : Nat) (dd : Option Addr) (sl : Array (Option Value)) (u : Tok) (c1 : (items.isEmpty || (0 : Int) == 1) = false) :
    Meets (Builtin.«tuple.__mul__» ⟨[.ref l, .int 0 u], []⟩) (fun _ R s => s.heap.get? l = some { cls := .type "tuple", dict := dd, data := .seq items n, slots := sl } ∧
      R (.ok (.ret (Value.ref s.heap.objs.size))) { s with heap := s.heap.push { cls := Value.type "tuple", data := Data.seq #[] }, toks := s.toks }) :=
  .of_wp fun prog w A R s h => by
    obtain ⟨hp, g, d, tk, os⟩ := s
    obtain ⟨hl, h⟩ := h
    have f1 := AutoSeq1.idx_int
    wp_walk using wpAny_loadPart' hl
    repeat (first
      | (refine wpAny_ite_false (decide_eq_false (by decide)) ?_; wp_walk using wpAny_loadPart' hl)
      | (refine wpAny_ite_false (decide_eq_false (by rw [c1]; exact Bool.false_ne_true)) ?_; wp_walk using wpAny_loadPart' hl)
      | (refine wpAny_ite_true (decide_eq_true (by rfl)) ?_; wp_walk using wpAny_loadPart' hl))
    exact ⟨_, rfl, h⟩
theorem tuple_mul1 (l : Addr) (items : Array Value) (n : Nat) (dd : Option Addr) (sl : Array (Option Value)) (u : Tok) (c1 : (items.isEmpty || (1 : Int) == 1) = true) :
    Meets (Builtin.«tuple.__mul__» ⟨[.ref l, .int 1 u], []⟩) (fun _ R s => s.heap.get? l = some { cls := .type "tuple", dict := dd, data := .seq items n, slots := sl } ∧
      R (.ok (.ret (Value.ref l))) s) :=
  .of_wp fun prog w A R s h => by
    obtain ⟨hp, g, d, tk, os⟩ := s
    obtain ⟨hl, h⟩ := h
    have f1 := AutoSeq1.idx_int
    wp_walk using wpAny_loadPart' hl
    repeat (first
      | (refine wpAny_ite_false (decide_eq_false (by decide)) ?_; wp_walk using wpAny_loadPart' hl)
      | (refine wpAny_ite_true (decide_eq_true (by rw [c1])) ?_; wp_walk using wpAny_loadPart' hl))
    exact ⟨_, rfl, h⟩
def rRepW (K : PySem.W.Frag) : R2 := fun x y H Q => ∃ l k xs, x = .ref l ∧ y = .int k ∧ SqT K H l xs ∧ xs ≠ [] ∧ 0 ≤ k ∧ k ≤ 1000 ∧ xs.length ≤ 1000 ∧ (k = 1 → Q (.ref l) H) ∧ (k ≠ 1 → ∀ p, H p = none → Q (.ref p) (upd H p (.tup (List.replicate k.toNat xs).flatten)))
theorem op_repW (K : PySem.W.Frag) (h : X.K = K := by rfl) : OpR X (binaryOp .Mult) (rRepW K) := by
  subst h
  intro pins s σ H x y v u Q I rx ry h
  obtain ⟨l, k, xs, rfl, rfl, hT, hne, h1, h2, hz, q1, q⟩ := h
  by_cases two : 2 ≤ k
  · exact op_repT pins s σ H _ _ v u Q I rx ry ⟨l, k, xs, rfl, rfl, hT, hne, two, h2, hz, q (by omega)⟩
  cases rx
  obtain ⟨t, rfl⟩ := ry
  obtain ⟨its, r, ⟨⟨cls, dd, data, sl⟩, ho, hc, n, hd⟩, hs⟩ := I.tuple hT
  simp only at hc hd
  subst hc hd
  have hle : its.length = xs.length := r.length.symm
  have hn : its ≠ [] := fun e => hne (by
    rw [e] at hle
    exact List.eq_nil_of_length_eq_zero hle.symm)
  have hi : its.toArray.isEmpty = false := by
    cases its with
    | nil => exact absurd rfl hn
    | cons a b => rfl
  by_cases one : k = 1
  · subst one
    exact wpAny_binaryOp_repeat_ref (T := "tuple") (U := "int") (by decide) ⟨_, ho, rfl⟩ (fun s' => typeIs_int s' 1 t) noFill_tuple_mul F.fills_int_mul F.slot_int_rmul repeat_tuple F.slot_int_index.lookup
      (call_meets F.slot_int_rmul (typeIs_int s 1 t) F.entry_int_rmul (F.args_int_rmul_2 _ _) (int_rmul_tuple 1 t l its.toArray n dd sl)
        ⟨ho, rfl, ⟨_, ho, rfl⟩, call_meets F.slot_tuple_mul ⟨_, ho, rfl⟩ F.entry_tuple_mul (F.args_tuple_mul_2 _ _) (tuple_mul1 l its.toArray n dd sl t (by simp)) ⟨ho, ⟨.ref l, H, I, rfl, q1 rfl⟩⟩⟩)
  · have e0 : k = 0 := by omega
    subst e0
    have q0 := q one
    have f0 : (List.replicate (Int.toNat 0) xs).flatten = [] := rfl
    rw [f0] at q0
    refine wpAny_binaryOp_repeat_ref (T := "tuple") (U := "int") (by decide) ⟨_, ho, rfl⟩ (fun s' => typeIs_int s' 0 t) noFill_tuple_mul F.fills_int_mul F.slot_int_rmul repeat_tuple F.slot_int_index.lookup
      (call_meets F.slot_int_rmul (typeIs_int s 0 t) F.entry_int_rmul (F.args_int_rmul_2 _ _) (int_rmul_tuple 0 t l its.toArray n dd sl)
        ⟨ho, rfl, ⟨_, ho, rfl⟩, call_meets F.slot_tuple_mul ⟨_, ho, rfl⟩ F.entry_tuple_mul (F.args_tuple_mul_2 _ _) (tuple_mul0 l its.toArray n dd sl t (by rw [hi]; rfl)) ⟨ho, ?_⟩⟩)
    refine ⟨.ref s.heap.objs.size, _, I.laid (t' := s.toks) (o := .tup []) (fun b ob q => Heap.get?_push_of_some _ q) (Nat.le_refl _) ?_, rfl, q0 _ (I.hok.fresh (Nat.le_refl _))⟩
    exact ⟨by show 0 ≤ sizeLine; omega, [], .nil, IsTup.new _ _⟩
/-! ### xs[i] as a thing that is got -/
def rGetL (K : PySem.W.Frag) : V → V → Hp → VK → Prop := fun x y H Q => ∃ p xs v, ∃ i : Nat, x = .ref p ∧ y = .int i ∧ SqL K H p xs ∧ xs[i]? = some v ∧ Q v H
theorem get_list (K : PySem.W.Frag) (h : X.K = K := by rfl) : PGet X (rGetL K) := by
  subst h
  intro pins s σ H x y v u Q I rx ry h
  obtain ⟨p, xs, z, i, rfl, rfl, hq, he, q⟩ := h
  cases rx
  obtain ⟨t, rfl⟩ := ry
  obtain ⟨its, r, pl, hz⟩ := I.list hq
  obtain ⟨w, ew, rw'⟩ := r.get he
  have hl := r.length
  have hn := line63
  have hi := (List.getElem?_eq_some_iff.mp he).1
  exact wpAny_getItem_list pl.isList (by omega) (by omega) (by simpa using ew) ⟨z, H, I, rw', q⟩
end
/-! ### comprehensions whose test is drawn -/
section
variable {K : PySem.W.Frag} {s : Nat} {te : TE} {tt : TT} {σ : L2.St} {H1 : Hp} {Q : VK}
/-- [x for x in l if t], t of an unknown outcome; what is at M may change, I is kept -/
theorem lcLf {a : Addr} {xs : List V} (pts : List Pt) (M : Addr → Prop) (I : Hp → Prop) (ma : ¬ M a) (hI : ∀ D, H1 D = none → I (upd H1 D (.lst [])) ∧ ¬ M D)
    (hst : ∀ D H vs ws, I H → H D = some (.lst vs) → ¬ M D → I (upd H D (.lst ws))) (hm : ∀ H b o, I H → M b → H b = some o → immut o = false)
    (hn : pts.length < sizeLine) (hx : H1 a = some (.lst xs)) (hxs : DpAll K H1 xs (pts.map ptD))
    (htt : ∀ (x : V) (H : Hp), Kt M H1 H → I H → ∀ Q' : Bool → Hp → Prop, (∀ b H3, Kt M H H3 → I H3 → Q' b H3) → tt ((σ.set s none).set s (some x)) H Q')
    (hte : ∀ (x : V) (H : Hp) (Q' : VK), Q' x H → te ((σ.set s none).set s (some x)) H Q')
    (hq : ∀ (D : Addr) (H : Hp) (vs : List V) (l : List Pt), H1 D = none → Kt M H1 H → I H → H D = some (.lst vs) → DpAll K H vs (l.map ptD) → (∀ y ∈ l, y ∈ pts) → l.length ≤ pts.length → Q (.ref D) H) : LcL K s tt te σ Q (.ref a) H1 := by
  refine ⟨a, rfl, ⟨xs, sqL_mk hx⟩, fun D hD => ?_⟩
  obtain ⟨i0, mD⟩ := hI D hD
  have hl := dps_len hxs
  rw [List.length_map] at hl
  have nda : a ≠ D := ne_of_none hx hD
  refine lc_list (xs := xs) (Qd := fun H => Q (.ref D) H) (fun i H => ∃ vs l, Kt M H1 H ∧ I H ∧ Tk H1 H ∧ H D = some (.lst vs) ∧ DpAll K H vs (l.map ptD) ∧ (∀ y ∈ l, y ∈ pts) ∧ l.length ≤ i)
    ⟨[], [], (Kt.refl H1).at hD, i0, Tk.new hD, upd_same, .nil, fun y h => by simp at h, by simp⟩ (fun i H _ ⟨_, _, k, _⟩ => sqL_mk (k.lst hx ma)) (fun i x H hi hp => ?_) (fun H hp => ?_)
  · obtain ⟨vs, l, k, ih, tk, hd, ha, hs, hll⟩ := hp
    have hi' := (List.getElem?_eq_some_iff.mp hi).1
    refine ⟨wipe1 σ s _, ?_⟩
    refine htt x H k ih _ fun b H3 k3 i3 => ?_
    have hd3 : H3 D = some (.lst vs) := k3.lst hd mD
    have tk3 : Tk H H3 := k3.tk fun b o m e => hm H b o ih m e
    refine ite2 (fun hb => ?_) (fun hb => ?_)
    · refine hte x H3 _ ?_
      obtain ⟨d, e1, e2⟩ := dps_get (dps_tk (tk.trans tk3) _ _ (ptDs_tup _) hxs) hi
      rw [List.getElem?_map] at e1
      cases e3 : pts[i]? with
      | none => rw [e3] at e1; cases e1
      | some y =>
        rw [e3] at e1; cases e1
        refine ⟨vs, hd3, by rw [dps_len ha, List.length_map]; omega, vs ++ [x], l ++ [y], (k.trans k3).at hD, hst D _ _ _ i3 hd3 mD, (tk.trans tk3).trans (Tk.lst hd3), upd_same, ?_, fun z hz => ?_, by simp; omega⟩
        · rw [List.map_append]
          exact dps_app (dps_tk (tk3.trans (Tk.lst hd3)) _ _ (ptDs_tup l) ha) (dps_one (dp_tk (Tk.lst hd3) _ x rfl e2))
        · rcases List.mem_append.mp hz with z' | z'
          · exact hs z z'
          · rw [List.mem_singleton.mp z']; exact List.mem_of_getElem? e3
    · exact ⟨vs, l, k.trans k3, i3, tk.trans tk3, hd3, dps_tk tk3 _ _ (ptDs_tup l) ha, hs, by omega⟩
  · obtain ⟨vs, l, k, ih, tk, hd, ha, hs, hll⟩ := hp
    exact hq D H vs l hD k ih hd ha hs (by omega)
end
end G
set_option Elab.async false
set_option linter.all false
set_option maxRecDepth 100000
set_option maxHeartbeats 4000000
set_option exponentiation.threshold 10000
namespace G
open PySem L2 LamX NdefX
section
variable {P : Program} {w : World} {K : PySem.W.Frag} {mg : Str → Option Value} {base : Heap}
def codesP (l points : List Pt) : List Nat := l.map (codeP points)
def natV (n : Nat) : V := .int (n : Int)
theorem codes_nil (l : List Pt) : codesP l [] = List.replicate l.length 0 := by
  induction l with
  | nil => rfl
  | cons x l ih => rw [codesP, List.map_cons, ← codesP, ih, List.length_cons, List.replicate_succ]; rfl
theorem code_le {points : List Pt} {x : Pt} : codeP points x ≤ 2 * points.length + 1 := by
  have := less_le (l := points) (y := x)
  unfold codeP
  split <;> omega
theorem vals_nat {K : PySem.W.Frag} {H : Hp} : ∀ {vs : List V} {ns : List Nat}, DpAll K H vs (ns.map fun n => PyData.int (n : Nat)) → vs = ns.map natV
  | _, [], h => by cases h; rfl
  | _, b :: bs, h => by
    cases h with
    | cons h1 h2 => cases h1; rw [vals_nat h2]; rfl
theorem nats_tup (ns : List Nat) : tupDs (ns.map fun n => PyData.int (n : Nat)) = true := tupDs_all.mpr fun d h => by
  obtain ⟨b, _, rfl⟩ := List.mem_map.mp h; rfl
theorem nats_dp {K : PySem.W.Frag} {H : Hp} (ns : List Nat) : DpAll K H (ns.map natV) (ns.map fun n => PyData.int (n : Nat)) := by
  induction ns with
  | nil => exact .nil
  | cons n ns ih => exact .cons (.int _) ih
end
end G
set_option Elab.async false
set_option linter.all false
set_option maxRecDepth 100000
set_option maxHeartbeats 4000000
/-! dict(zip(t, u)) of two tuples, the keys tuples of numbers and texts -/
namespace G
open PySem L2 PySem.Spec PyProof.Rows
section
variable {prog : Program} {w : World} {A : Around} {E : Value → Shared → Prop} {z0 : Shared} {zp ti to T i1 i2 : Addr} {f1 f2 : List Addr} {n1 n2 i : Nat} {P1 P2 : Nat → Value → Prop} {S1 S2 : Nat → Heap → Prop} {known : Bool} {oT : Obj}
/-- the next pair, while the one given out before is still there -/
theorem zh_next {Q : Value → Shared → Prop} (Z : ZipSep2 zp ti to i1 i2 f1 f2) (D1 : Draws prog w A i1 f1 n1 P1 S1) (D2 : Draws prog w A i2 f2 n2 P2 S2)
    (held : IsZipHeld z0.heap zp ti to T known) (alive : z0.heap.get? T = some oT) (pair : IsTupOf2 z0.heap ti (.ref i1) (.ref i2)) (a1 : S1 i z0.heap) (a2 : S2 i z0.heap) (l1 : i < n1) (l2 : i < n2)
    (goal : ∀ x y g t, P1 i x → P2 i y → IsZipHeld g zp ti to T true → S1 (i + 1) g → S2 (i + 1) g → IsTupOf2 g z0.heap.objs.size x y → (∀ c o, c ≠ zp → c ≠ i1 → c ≠ i2 → z0.heap.get? c = some o → g.get? c = some o) →
      Q (.ref z0.heap.objs.size) { z0 with heap := g, toks := t }) :
    wpAny (model prog w) A (Builtin.«zip.__next__» ⟨[.ref zp], []⟩) (fun fin y => ∃ v, fin = .done (.ret v) ∧ Q v y) E z0 := by
  obtain ⟨hp, gn, dr, tk, os⟩ := z0
  show wpAny _ _ (field (Value.ref zp) 2 >>= _) _ E ⟨hp, gn, dr, tk, os⟩
  refine wpAny_bind (wpAny_field held rfl (x := Value.bool false) rfl ?_)
  show wpAny _ _ (field (Value.ref zp) 3 >>= _) _ E ⟨hp, gn, dr, tk, os⟩
  refine wpAny_bind (wpAny_field held rfl (x := Value.ref ti) rfl (wpAny_bind (wpAny_seqItems pair rfl ?_)))
  show wpAny _ _ (Builtin.SmallTypes.ownedTupleIsFree (Value.ref zp) >>= _) _ E ⟨hp, gn, dr, tk, os⟩
  refine wpAny_bind (wpAny_tupleHeld_zip (s := ⟨hp, gn, dr, tk, os⟩) held alive fun g1 held1 b1 => ?_)
  replace b1 : Heap.SameBut zp hp g1 := b1
  simp only [Bool.false_eq_true, if_false]
  refine wpAny_bind ?_
  rw [← Array.forIn_toList]
  simp only [List.forIn_cons, List.forIn_nil]
  refine wpAny_bind (wpAny_bind (wpAny_holding ?_))
  show wpAny _ _ (Builtin.SmallTypes.nextOf (Value.ref i1) >>= _) _ E ⟨g1, gn, dr, tk, os⟩
  refine wpAny_bind (D1.item i _ _ _ l1 (D1.over a1 b1 Z.zf1) fun x g2 t2 px c1 b2 => wpAny_pure (wpAny_pure ?_))
  replace b2 : Heap.SameBut i1 g1 g2 := b2
  refine wpAny_bind (wpAny_bind (wpAny_holding ?_))
  show wpAny _ _ (Builtin.SmallTypes.nextOf (Value.ref i2) >>= _) _ E ⟨g2, gn, dr, t2, os⟩
  refine wpAny_bind (D2.item i _ _ _ l2 (D2.over (D2.over a2 b1 Z.zf2) b2 Z.sep1_2) fun y g3 t3 py c2 b3 => wpAny_pure (wpAny_pure (wpAny_pure ?_)))
  replace b3 : Heap.SameBut i2 g2 g3 := b3
  show wpAny _ _ (newTuple [x, y] >>= _) _ E ⟨g3, gn, dr, t3, os⟩
  refine wpAny_bind (wpAny_newTuple (wpAny_pure ⟨_, rfl, ?_⟩))
  have size : g3.objs.size = hp.objs.size := by rw [b3.1, b2.1, b1.1]
  have held3 : IsZipHeld g3 zp ti to T true := b3.extBut _ _ Z.zi2 (b2.extBut _ _ Z.zi1 held1)
  have stay : ∀ c o, c ≠ zp → c ≠ i1 → c ≠ i2 → hp.get? c = some o → g3.get? c = some o := fun c o q0 q1 q2 e => b3.extBut c o q2 (b2.extBut c o q1 (b1.extBut c o q0 e))
  have made : (g3.push { cls := .type "tuple", data := .seq #[x, y] }).get? g3.objs.size = some { cls := .type "tuple", data := .seq #[x, y] } := Heap.get?_push_size _ rfl
  show Q (.ref g3.objs.size) ⟨_, gn, dr, t3, os⟩
  rw [size] at made ⊢
  exact goal x y _ t3 px py (Heap.get?_push_of_some _ held3) (D1.frame _ _ _ (D1.over c1 b3 Z.sep2_1) fun b _ o e => Heap.get?_push_of_some _ e) (D2.frame _ _ _ c2 fun b _ o e => Heap.get?_push_of_some _ e) made
    fun c o q0 q1 q2 e => Heap.get?_push_of_some _ (stay c o q0 q1 q2 e)
/-- the end, while the last pair is still there -/
theorem zh_end {Q : Fin → Shared → Prop} (Z : ZipSep2 zp ti to i1 i2 f1 f2) (D1 : Draws prog w A i1 f1 n1 P1 S1)
    (held : IsZipHeld z0.heap zp ti to T known) (alive : z0.heap.get? T = some oT) (pair : IsTupOf2 z0.heap ti (.ref i1) (.ref i2)) (a1 : S1 n1 z0.heap)
    (goal : ∀ g e, (∀ c o, c ≠ zp → c ≠ i1 → z0.heap.get? c = some o → g.get? c = some o) → (∃ o, g.get? e = some o ∧ o.cls = .type "StopIteration") → E (.ref e) { z0 with heap := g }) :
    wpAny (model prog w) A (Builtin.«zip.__next__» ⟨[.ref zp], []⟩) Q E z0 := by
  obtain ⟨hp, gn, dr, tk, os⟩ := z0
  show wpAny _ _ (field (Value.ref zp) 2 >>= _) _ E ⟨hp, gn, dr, tk, os⟩
  refine wpAny_bind (wpAny_field held rfl (x := Value.bool false) rfl ?_)
  show wpAny _ _ (field (Value.ref zp) 3 >>= _) _ E ⟨hp, gn, dr, tk, os⟩
  refine wpAny_bind (wpAny_field held rfl (x := Value.ref ti) rfl (wpAny_bind (wpAny_seqItems pair rfl ?_)))
  show wpAny _ _ (Builtin.SmallTypes.ownedTupleIsFree (Value.ref zp) >>= _) _ E ⟨hp, gn, dr, tk, os⟩
  refine wpAny_bind (wpAny_tupleHeld_zip (s := ⟨hp, gn, dr, tk, os⟩) held alive fun g1 held1 b1 => ?_)
  replace b1 : Heap.SameBut zp hp g1 := b1
  simp only [Bool.false_eq_true, if_false]
  refine wpAny_bind ?_
  rw [← Array.forIn_toList]
  simp only [List.forIn_cons, List.forIn_nil]
  refine wpAny_bind (wpAny_bind (wpAny_holding ?_))
  show wpAny _ _ (Builtin.SmallTypes.nextOf (Value.ref i1) >>= _) _ E ⟨g1, gn, dr, tk, os⟩
  exact wpAny_bind (D1.done _ _ _ (D1.over a1 b1 Z.zf1) fun g2 e b2 st => goal g2 e (fun c o q0 q1 x => b2 c o q1 (b1.extBut c o q0 x)) st)
theorem zn_item {Q : Option Value → Shared → Prop} (Z : ZipSep2 zp ti to i1 i2 f1 f2) (D1 : Draws prog w A.in1 i1 f1 n1 P1 S1) (D2 : Draws prog w A.in1 i2 f2 n2 P2 S2)
    (held : IsZipHeld z0.heap zp ti to T known) (alive : z0.heap.get? T = some oT) (pair : IsTupOf2 z0.heap ti (.ref i1) (.ref i2)) (a1 : S1 i z0.heap) (a2 : S2 i z0.heap) (l1 : i < n1) (l2 : i < n2)
    (goal : ∀ x y g t, P1 i x → P2 i y → IsZipHeld g zp ti to T true → S1 (i + 1) g → S2 (i + 1) g → IsTupOf2 g z0.heap.objs.size x y → (∀ c o, c ≠ zp → c ≠ i1 → c ≠ i2 → z0.heap.get? c = some o → g.get? c = some o) →
      Q (some (.ref z0.heap.objs.size)) { z0 with heap := g, toks := t }) : wpAny (model prog w) A (pyNext (.ref zp)) Q E z0 := by
  have kind : z0.TypeIs (.ref zp) "zip" := ⟨_, held, rfl⟩
  unfold pyNext
  refine wpAny_bind (wpAny_attempt (wpAny_callSpecial?_slot (name := Str.ofString "__next__") kind F.slot_zip_next ?_))
  exact wpAny_call_entry F.slot_zip_next kind F.entry_zip_next (zh_next Z D1 D2 held alive pair a1 a2 l1 l2 fun x y g t q1 q2 q3 q4 q5 q6 q7 => wpAny_pure (goal x y g t q1 q2 q3 q4 q5 q6 q7)) (F.args_zip_next_1 _)
theorem zn_end {Q : Option Value → Shared → Prop} (Z : ZipSep2 zp ti to i1 i2 f1 f2) (D1 : Draws prog w A.in1 i1 f1 n1 P1 S1)
    (held : IsZipHeld z0.heap zp ti to T known) (alive : z0.heap.get? T = some oT) (pair : IsTupOf2 z0.heap ti (.ref i1) (.ref i2)) (a1 : S1 n1 z0.heap)
    (goal : ∀ g, (∀ c o, c ≠ zp → c ≠ i1 → z0.heap.get? c = some o → g.get? c = some o) → Q none { z0 with heap := g }) : wpAny (model prog w) A (pyNext (.ref zp)) Q E z0 := by
  have kind : z0.TypeIs (.ref zp) "zip" := ⟨_, held, rfl⟩
  unfold pyNext
  refine wpAny_bind (wpAny_attempt (wpAny_callSpecial?_slot (name := Str.ofString "__next__") kind F.slot_zip_next ?_))
  refine wpAny_call_entry F.slot_zip_next kind F.entry_zip_next (zh_end Z D1 held alive pair a1 fun g e stay st => ?_) (F.args_zip_next_1 _)
  obtain ⟨o, ho, hc⟩ := st
  exact wpAny_bind (wpAny_isInstance (T := "StopIteration") (b := true) ⟨o, ho, hc⟩ isSubtype_stop (wpAny_pure (goal g stay)))
end
/-- the state of the heap: a zip over two tuples that has begun -/
def ZipOk (zp ti to i1 i2 t1 t2 : Addr) (xs ys : Array Value) (h : Heap) : Prop :=
  IsZip h zp ti to .none ∧ IsTupOf2 h ti (.ref i1) (.ref i2) ∧ (∃ a b, IsTupOf2 h to a b) ∧ h.IsTupleIter i1 t1 0 ∧ h.IsTupleIter i2 t2 0 ∧ h.IsTuple t1 xs ∧ h.IsTuple t2 ys
/-- .. that goes on -/
def ZipGo (d zp ti to i1 i2 t1 t2 : Addr) (xs ys : Array Value) (i : Nat) (h : Heap) : Prop :=
  IsTupOf2 h ti (.ref i1) (.ref i2) ∧ h.IsTupleIter i1 t1 i ∧ h.IsTupleIter i2 t2 i ∧ h.IsTuple t1 xs ∧ h.IsTuple t2 ys ∧
  ((IsZip h zp ti to .none ∧ ∃ a b, IsTupOf2 h to a b) ∨ ∃ T f oT, IsZipHeld h zp ti to T f ∧ h.get? T = some oT ∧ T ≠ zp ∧ T ≠ i1 ∧ T ≠ i2 ∧ T ≠ d)
theorem zip_src {prog : Program} {w : World} {A : Around} (hA : A.handled = none) {d zp ti to i1 i2 t1 t2 : Addr} (Z : ZipSep2 zp ti to i1 i2 [i1, t1] [i2, t2]) (xs ys : Array Value) (same : xs.size = ys.size)
    (dn : d ≠ zp ∧ d ≠ ti ∧ d ≠ to ∧ d ≠ i1 ∧ d ≠ i2 ∧ d ≠ t1 ∧ d ≠ t2) (n1 : t1 ≠ i1) (n2 : t2 ≠ i2) :
    PairSrc prog w A zp d [zp, to, i1, i2] xs.size (fun i k v => xs[i]? = some k ∧ ys[i]? = some v) (ZipGo d zp ti to i1 i2 t1 t2 xs ys) := by
  obtain ⟨dz, dti, dto, di1, di2, dt1, dt2⟩ := dn
  have D1 := Draws.tuple (prog := prog) (w := w) (A := A.in1) hA i1 t1 n1 xs
  have D2 := Draws.tuple (prog := prog) (w := w) (A := A.in1) hA i2 t2 n2 ys
  have off : ∀ {c : Addr}, c ∉ [zp, to, i1, i2] → c ≠ zp ∧ c ≠ to ∧ c ≠ i1 ∧ c ≠ i2 := fun {c} h => by
    simp only [List.mem_cons, List.not_mem_nil, or_false, not_or] at h
    exact h
  refine { off := fun m => ?_, frame := fun i h h' st keep => ?_, item := fun i s1 Q E hi st hd goal => ?_, done := fun s1 Q E st goal => ?_ }
  · simp only [List.mem_cons, List.not_mem_nil, or_false] at m
    rcases m with e | e | e | e
    · exact dz e
    · exact dto e
    · exact di1 e
    · exact di2 e
  · obtain ⟨pair, a1, a2, b1, b2, zz⟩ := st
    refine ⟨keep _ _ (Ne.symm dti) pair, a1.at fun o e => keep _ o (Ne.symm di1) e, a2.at fun o e => keep _ o (Ne.symm di2) e, b1.at fun o e => keep _ o (Ne.symm dt1) e, b2.at fun o e => keep _ o (Ne.symm dt2) e, ?_⟩
    rcases zz with ⟨q, a, b, u⟩ | ⟨T, f, oT, q, alive, r1, r2, r3, r4⟩
    · exact .inl ⟨keep _ _ (Ne.symm dz) q, a, b, keep _ _ (Ne.symm dto) u⟩
    · exact .inr ⟨T, f, oT, keep _ _ (Ne.symm dz) q, keep _ _ r4 alive, r1, r2, r3, r4⟩
  · obtain ⟨pair, a1, a2, b1, b2, zz⟩ := st
    have low1 : i1 < s1.heap.objs.size := by obtain ⟨_, e, _⟩ := a1; exact Heap.lt_size e
    have low2 : i2 < s1.heap.objs.size := by obtain ⟨_, e, _⟩ := a2; exact Heap.lt_size e
    rcases zz with ⟨q, a, b, u⟩ | ⟨T, f, oT, q, alive, r1, r2, r3, r4⟩
    · refine wpAny_pyNext_zipD2_item Z D1 D2 q pair u ⟨a1, b1⟩ ⟨a2, b2⟩ hi (by omega) fun x y g t px py held u' c1 c2 made _ stay => ?_
      exact goal s1.heap.objs.size x y g t ⟨px, py⟩ (.inl ⟨_, made, rfl, _, rfl⟩) ⟨stay _ _ Z.TIz Z.TITO Z.TIi1 Z.TIi2 pair, c1.1, c2.1, c1.2, c2.2,
        .inr ⟨s1.heap.objs.size, false, _, held, made, Nat.ne_of_gt (Heap.lt_size q), Nat.ne_of_gt low1, Nat.ne_of_gt low2, Nat.ne_of_gt hd⟩⟩ fun c o h e => stay c o (off h).1 (off h).2.1 (off h).2.2.1 (off h).2.2.2 e
    · refine zn_item Z D1 D2 q alive pair ⟨a1, b1⟩ ⟨a2, b2⟩ hi (by omega) fun x y g t px py held c1 c2 made stay => ?_
      exact goal s1.heap.objs.size x y g t ⟨px, py⟩ (.inl ⟨_, made, rfl, _, rfl⟩) ⟨stay _ _ Z.TIz Z.TIi1 Z.TIi2 pair, c1.1, c2.1, c1.2, c2.2,
        .inr ⟨T, true, oT, held, stay _ _ r1 r2 r3 alive, r1, r2, r3, r4⟩⟩ fun c o h e => stay c o (off h).1 (off h).2.2.1 (off h).2.2.2 e
  · obtain ⟨pair, a1, a2, b1, b2, zz⟩ := st
    rcases zz with ⟨q, a, b, u⟩ | ⟨T, f, oT, q, alive, r1, r2, r3, r4⟩
    · exact wpAny_pyNext_zipD2_end Z D1 D2 q pair u ⟨a1, b1⟩ ⟨a2, b2⟩ (Nat.le_refl _) (Nat.le_of_eq same) (.inl rfl) fun g t stay => goal g t fun c o h e => stay c o (off h).1 (off h).2.1 (off h).2.2.1 (off h).2.2.2 e
    · exact zn_end Z D1 q alive pair ⟨a1, b1⟩ fun g stay => goal g s1.toks fun c o h e => stay c o (off h).1 (off h).2.2.1 e
theorem zip_arg {prog : Program} {w : World} {zp ti to i1 i2 t1 t2 : Addr} (Z : ZipSep2 zp ti to i1 i2 [i1, t1] [i2, t2]) (xs ys : Array Value) (same : xs.size = ys.size) (n1 : t1 ≠ i1) (n2 : t2 ≠ i2) :
    PairArg prog w "zip" zp [zp, ti, to, i1, i2, t1, t2] [zp, to, i1, i2] xs.size (fun i k v => xs[i]? = some k ∧ ys[i]? = some v) (ZipOk zp ti to i1 i2 t1 t2 xs ys) := by
  refine { type := fun s ok => ⟨_, ok.1, rfl⟩, notDict := by decide, keep := fun h h' ok k => ?_, there := fun h ok b hb => ?_, sub := fun b hb => ?_, noKeys := fun A s Q E hA ok h => getAttrOr_miss_zip ok.1 rfl rfl rfl zip_no_keys (by decide +kernel) hA h, iter := fun A s d Q E hA ok hd off goal => ?_ }
  · obtain ⟨q, pair, ⟨a, b, u⟩, a1, a2, b1, b2⟩ := ok
    exact ⟨k _ _ q, k _ _ pair, ⟨a, b, k _ _ u⟩, a1.at fun o e => k _ o e, a2.at fun o e => k _ o e, b1.at fun o e => k _ o e, b2.at fun o e => k _ o e⟩
  · obtain ⟨q, pair, ⟨a, c, u⟩, ⟨o1, a1, _⟩, ⟨o2, a2, _⟩, ⟨o3, b1, _⟩, ⟨o4, b2, _⟩⟩ := ok
    simp only [List.mem_cons, List.not_mem_nil, or_false] at hb
    rcases hb with rfl | rfl | rfl | rfl | rfl | rfl | rfl
    · exact ⟨_, q⟩
    · exact ⟨_, pair⟩
    · exact ⟨_, u⟩
    · exact ⟨_, a1⟩
    · exact ⟨_, a2⟩
    · exact ⟨_, b1⟩
    · exact ⟨_, b2⟩
  · simp only [List.mem_cons, List.not_mem_nil, or_false] at hb ⊢
    rcases hb with h | h | h | h <;> simp [h]
  · obtain ⟨q, pair, ⟨a, b, u⟩, a1, a2, b1, b2⟩ := ok
    simp only [List.mem_cons, List.not_mem_nil, or_false, not_or] at off
    exact wpAny_pyIter_zip q (goal zp [zp, to, i1, i2] _ s.heap s.toks (zip_src hA Z xs ys same off n1 n2) ⟨pair, a1, a2, b1, b2, .inl ⟨q, a, b, u⟩⟩ (fun _ _ e => e) fun b hb => .inl hb)
/-! ### the rule -/
/-- the items of two tuples, as keys and what they lead to -/
structure KeyedBy (H : Hp) (xs ys : List V) (kvs : List (List Key × V)) : Prop where
  at_ : ∀ (i : Nat) (k : List Key) (v : V), kvs[i]? = some (k, v) → ∃ b : Addr, xs[i]? = some (V.ref b) ∧ H b = some (.tup (k.map kV)) ∧ ys[i]? = some v
  lx : xs.length = kvs.length
  ly : ys.length = kvs.length
  nd : (kvs.map (·.1)).Nodup
def tDZ (K : PySem.W.Frag) (ta : TA) : TE := fun σ H Q => ta σ H fun vs H1 => ∃ (a b : Addr) (xs ys : List V) (kvs : List (List Key × V)), vs = [.ref a, .ref b] ∧ SqT K H1 a xs ∧ SqT K H1 b ys ∧ KeyedBy H1 xs ys kvs ∧ kvs.length ≤ sizeLine ∧ ∀ p, H1 p = none → Q (.ref p) (upd H1 p (.dT kvs))
/-- the entries as the dict has them -/
def entries : List (List Key × V) → List V → List Value → List (List Key × Addr × Value)
  | [], _, _ => []
  | kv :: kvs, .ref b :: xs, u :: us => (kv.1, b, u) :: entries kvs xs us
  | kv :: kvs, _, _ => []
theorem entries_at {H : Hp} : ∀ {kvs : List (List Key × V)} {xs ys : List V} {us : List Value}, KeyedBy H xs ys kvs → Vals ys us → KT H kvs (entries kvs xs us) ∧ (entries kvs xs us).length = kvs.length ∧ (entries kvs xs us).map (·.1) = kvs.map (·.1) ∧
    ∀ (i : Nat) (b : Addr) (u : Value), xs[i]? = some (.ref b) → us[i]? = some u → ∃ k, (entries kvs xs us)[i]? = some (k, b, u)
  | [], xs, ys, us, h, r => by
    have e : xs = [] := List.length_eq_zero_iff.mp h.lx
    subst e
    exact ⟨.nil, rfl, rfl, fun i b u e => by simp at e⟩
  | kv :: kvs, xs, ys, us, h, r => by
    obtain ⟨b, e1, e2, e3⟩ := h.at_ 0 kv.1 kv.2 rfl
    cases xs with
    | nil => simp at e1
    | cons x xs =>
      cases ys with
      | nil => simp at e3
      | cons y ys =>
        cases r with
        | @cons _ u _ us r1 r2 =>
          have ex : x = .ref b := by simpa using e1
          have ey : y = kv.2 := by simpa using e3
          subst ex ey
          have h' : KeyedBy H xs ys kvs := ⟨fun i k v e => by
              obtain ⟨b, q1, q2, q3⟩ := h.at_ (i + 1) k v (by simpa using e)
              exact ⟨b, by simpa using q1, q2, by simpa using q3⟩, by simpa using h.lx, by simpa using h.ly, (List.nodup_cons.mp h.nd).2⟩
          obtain ⟨t1, t2, t3, t4⟩ := entries_at h' r2
          refine ⟨.cons ⟨rfl, e2, r1⟩ t1, ?_, ?_, fun i c u' q1 q2 => ?_⟩
          · show (entries kvs xs us).length + 1 = _
            rw [t2]; rfl
          · show kv.1 :: (entries kvs xs us).map (·.1) = _
            rw [t3]; rfl
          · cases i with
            | zero =>
              have a1 : b = c := by simpa using q1
              have a2 : u = u' := by simpa using q2
              subst a1 a2
              exact ⟨_, rfl⟩
            | succ i => exact t4 i c u' (by simpa using q1) (by simpa using q2)
theorem pe_dictZip (K : PySem.W.Frag) {X : Cx} {e e2 : Expr} {ta : TA} {p p2 pos pos2 : Pos} (hc : X.calm = true) (hd : Gl X "dict") (md : X.mg "dict" = none) (hz : Gl X "zip") (mz : X.mg "zip" = none) (hu : X.A.units + 64 < cLine) (ha : PA X [e, e2] ta)
    (hs : starEach [e, e2] X.env = (false, eval e X.env) :: starEach [e2] X.env := by rfl) (hpl : (backTo pos2 (starEach [e2] X.env)).any (·.1) = false := by rfl)
    (hs2 : starEach [.Call (.Name "zip" p2) [e, e2] [] pos2] X.env = [(false, eval (.Call (.Name "zip" p2) [e, e2] [] pos2) X.env)] := by rfl) (hK : X.K = K := by rfl) :
    PE X (.Call (.Name "dict" p) [.Call (.Name "zip" p2) [e, e2] [] pos2] [] pos) (tDZ K ta) := by
  subst hK
  constructor
  intro pins z σ H Q I want
  refine Call_ (ld_blt I hd md boot_dict (callWith_type1 (Calls.spliced_cons ?_) hs2 rfl))
  refine Call_ (ld_blt I hz mz boot_zip (callWith_type1 (thn (ha.run pos2 pins z σ H _ I want) fun us z1 ⟨vs, H1, I1, rel, q1⟩ => ?_) hs hpl))
  obtain ⟨a, b, xs, ys, kvs, rfl, sx, sy, by_, small, q⟩ := q1
  cases rel with
  | cons r rr =>
    cases rr with
    | cons r' rr =>
      cases rr
      cases r
      cases r'
      obtain ⟨its, rv, tx, _⟩ := I1.tuple sx
      obtain ⟨its2, rv2, ty, _⟩ := I1.tuple sy
      have la : a < z1.heap.objs.size := by obtain ⟨_, e, _⟩ := tx; exact Heap.lt_size e
      have lb : b < z1.heap.objs.size := by obtain ⟨_, e, _⟩ := ty; exact Heap.lt_size e
      refine zip_begins2 (begins_tuple a its.toArray) (begins_tuple b its2.toArray) tx ty fun h' q0 pair u a1 a2 size keep => ?_
      refine Calls.spliced_nil ?_
      have Z : ZipSep2 (z1.heap.objs.size + 4) (z1.heap.objs.size + 2) (z1.heap.objs.size + 3) z1.heap.objs.size (z1.heap.objs.size + 1) [z1.heap.objs.size, a] [z1.heap.objs.size + 1, b] :=
        zip_sep2 (fun c m => by rw [List.mem_singleton.mp m]; exact la) (fun c m => by rw [List.mem_singleton.mp m]; exact lb)
      have l1 : its.length = kvs.length := by rw [← rv.length, by_.lx]
      have l2 : its2.length = kvs.length := by rw [← rv2.length, by_.ly]
      obtain ⟨kt, kl, kk, ke⟩ := entries_at by_ rv2
      have old : ∀ {c : Addr}, c < z1.heap.objs.size → c ∉ [z1.heap.objs.size + 4, z1.heap.objs.size + 3, z1.heap.objs.size, z1.heap.objs.size + 1] := fun {c} low m => by
        simp only [List.mem_cons, List.not_mem_nil, or_false] at m
        rcases m with e | e | e | e
        · exact absurd e (Nat.ne_of_lt (Nat.lt_of_lt_of_le low (Nat.le_add_right _ _)))
        · exact absurd e (Nat.ne_of_lt (Nat.lt_of_lt_of_le low (Nat.le_add_right _ _)))
        · exact absurd e (Nat.ne_of_lt low)
        · exact absurd e (Nat.ne_of_lt (Nat.lt_of_lt_of_le low (Nat.le_add_right _ _)))
      have bsys : sysModules < z1.heap.objs.size := I1.big
      refine call_dict_pairsH (knd := tupleKind (mixKind X.prog X.w)) (ps := entries kvs xs its2) (zip_arg Z its.toArray its2.toArray (by rw [List.size_toArray, List.size_toArray, l1, l2]) (Nat.ne_of_lt la) (Nat.ne_of_lt (Nat.lt_succ_of_lt lb))) (I1.ok.hd hc) (show X.A.units + 2 < cLine by omega)
        ⟨q0, pair, ⟨_, _, u⟩, ⟨_, a1, rfl, rfl⟩, ⟨_, a2, rfl, rfl⟩, Heap.IsTuple.at (h := z1.heap) tx fun o e => keep _ o e, Heap.IsTuple.at (h := z1.heap) ty fun o e => keep _ o e⟩ ⟨by rw [kl, List.size_toArray, l1], fun i k v h => ?_⟩ (fun h2 keep2 x hx => ?_) (by rw [List.size_toArray, l1]; exact small) fun h2 tk made keep2 => ?_
      · obtain ⟨g1, g2⟩ := h
        have g1' : its[i]? = some k := by simpa using g1
        have g2' : its2[i]? = some v := by simpa using g2
        have il : i < kvs.length := by rw [← l1]; exact (List.getElem?_eq_some_iff.mp g1').1
        obtain ⟨c, e1, e2, e3⟩ := by_.at_ i _ _ (List.getElem?_eq_getElem il)
        obtain ⟨w, ew, rw'⟩ := rv.get e1
        rw [g1'] at ew
        cases ew
        cases rw'
        obtain ⟨kx, hk⟩ := ke i c v e1 g2'
        exact ⟨kx, c, hk, rfl⟩
      · have all : ∀ {l : List (List Key × V)} {m : List (List Key × Addr × Value)}, KT H1 l m → ∀ x ∈ m, H1 x.2.1 = some (.tup (x.1.map kV)) := by
          intro l m t
          induction t with
          | nil => intro x hx; cases hx
          | @cons p1 p2 ps qs h t ih =>
            intro x hx
            rcases List.mem_cons.mp hx with e | hx
            · subst e; rw [← h.1]; exact h.2.1
            · exact ih x hx
        have hk := key_of (w := X.w) I1.hok (all kt x hx)
        obtain ⟨o, items, n, e1, e2, e3, e4⟩ := hk
        have low := Heap.lt_size e1
        exact ⟨o, items, n, keep2 _ _ (Nat.ne_of_lt (by rw [size]; exact Nat.lt_of_lt_of_le low (Nat.le_add_right _ _))) (old low) (keep _ _ e1), e2, e3, e4⟩
      · have n0 : (entries kvs xs its2).map (·.1) |>.Nodup := by rw [kk]; exact by_.nd
        rw [storedAllH_nil_of_nodup _ n0] at made
        have ks : ∀ c o, z1.heap.get? c = some o → h2.get? c = some o := fun c o e => by
          have low := Heap.lt_size e
          exact keep2 c o (old low) (keep _ _ e)
        have hle : z1.heap.objs.size ≤ h'.objs.size := by rw [size]; exact Nat.le_add_right _ _
        have free : H1 h'.objs.size = none := I1.hok.fresh hle
        have kt' : KT (upd H1 h'.objs.size (.dT kvs)) kvs (entries kvs xs its2) := kt.keeps fun c w e => by rw [upd_ne (ne_of_none e free)]; exact e
        obtain ⟨ob, es, ep, m1, m2, m3, m4, _, m5⟩ := made
        exact ⟨.ref h'.objs.size, upd H1 h'.objs.size (.dT kvs), I1.laid (t' := tk) ks hle ⟨small, beq_eq_false_iff_ne.mpr (Nat.ne_of_gt (Nat.lt_of_lt_of_le bsys hle)), _, kt', ob, es, ep, m1, m2, m3, m4, m5⟩, rfl, q _ free⟩
end G
set_option Elab.async false
set_option linter.all false
set_option maxRecDepth 100000
set_option maxHeartbeats 2000000
/-! rules: starred items, tuple.count, comprehensions over pairs, dicts led by points -/
namespace G
open PySem L2 PySem.Spec PyProof.Rows
section
variable {X : Cx}
theorem k_star (K : PySem.W.Frag) {e : Expr} {es : List Expr} {p : Pos} {te : TE} {t : TA} (he : PE X e te) (hr : PA X es t) (hs : starEach (.Starred e p :: es) X.env = (true, eval e X.env) :: starEach es X.env := by rfl) (h : X.K = K := by rfl) : PA X (.Starred e p :: es) (StX.tStar K te t) := h ▸ StX.pa_star he hr hs
/-! ### t.count(k) -/
def rCntT (K : PySem.W.Frag) : V → List V → Hp → VK → Prop := fun x xs H Q => ∃ (p : Addr) (ns : List Int) (k : Int), x = .ref p ∧ xs = [.int k] ∧ SqT K H p (ns.map V.int) ∧ Q (.int (ns.count k : Nat)) H
theorem ints_plain (ns : List Int) : PyData.plainAll (ns.map PyData.int) = true := by
  induction ns with
  | nil => rfl
  | cons n l ih => simp only [List.map_cons, PyData.plainAll, PyData.plain, ih, Bool.and_self]
theorem ints_flat (ns : List Int) : PyData.depthAll (ns.map PyData.int) = 0 := by
  induction ns with
  | nil => rfl
  | cons n l ih => simp only [List.map_cons, PyData.depthAll, PyData.depth, ih]; rfl
theorem k_tcount (K : PySem.W.Frag) (hu : X.A.units + 65 < cLine) (h : X.K = K := by rfl) : MtR X "tuple.count" (rCntT K) := by
  subst h
  intro pins s σ H x xs v us Q I rx rxs h
  obtain ⟨p, ns, k, rfl, rfl, st, q⟩ := h
  cases rx
  cases rxs with
  | cons r rr =>
    cases rr
    obtain ⟨t, rfl⟩ := r
    obtain ⟨its, rv, tup, _⟩ := I.tuple st
    obtain ⟨as, rs⟩ := L2.Dp.readsAll I (ns.map PyData.int) _ its (dps_ints ns).up rv
    obtain ⟨bs, rk⟩ := L2.Dp.reads I (PyData.int k) (V.int k) (Value.int k t) (.int k) ⟨t, rfl⟩
    refine SeqAt.count_tuple_data tup rs rk (ints_plain ns) rfl (by rw [ints_flat]; omega) ?_
    have e : (ns.map PyData.int).countP (fun y => PyData.eqv y (PyData.int k)) = ns.count k := by
      rw [List.countP_map, List.count]
      congr 1
    rw [e]
    exact ⟨.int _, H, I.tok _, ⟨_, rfl⟩, q⟩
end
/-! ### comprehensions over a list, whatever the target -/
section
variable {K : PySem.W.Frag} {g : TG} {tt : TT} {te : TE} {vs : List Nat} {σ : L2.St} {H H1 : Hp} {Q : VK}
def LcLg (K : PySem.W.Frag) (g : TG) (tt : TT) (te : TE) (vs : List Nat) (σ : L2.St) (Q : VK) (x : V) (H1 : Hp) : Prop := ∃ a, x = .ref a ∧ (∃ xs, SqL K H1 a xs) ∧ ∀ D, H1 D = none →
    ∃ W : Nat → Nat → Hp → Prop, (∃ m, W 0 m (upd H1 D (.lst []))) ∧ ∀ i m H, W i m H →
      ((Itl K a).stop i H ∧ Q (.ref D) H) ∨ ((Itl K a).go i H ∧ ∃ Nx : Hp → Prop, (∀ H', Nx H' → ∃ m', m' < m ∧ W (i + 1) m' H') ∧ ∀ x H', (Itl K a).yld i H x H' → g x (wipe σ vs) H' fun σ2 H2 => wipe σ2 vs = wipe σ vs ∧ tt σ2 H2 fun b H3 =>
        if b = true then te σ2 H3 fun y H4 => ∃ acc, H4 D = some (.lst acc) ∧ acc.length < sizeLine ∧ Nx (upd H4 D (.lst (acc ++ [y]))) else Nx H3)
theorem tlcLg {tl : TE} (h : tl σ H (LcLg K g tt te vs σ Q)) : tLc (iList K tl) g tt te vs σ H Q := h
/-- each item's part is known and nothing changes -/
theorem lcKnown {a : Addr} {xs ws : List V} (hx : H1 a = some (.lst xs)) (hl : ws.length = xs.length) (hn : ws.length < sizeLine)
    (hs : ∀ (i : Nat) (x w : V) (H' : Hp), xs[i]? = some x → ws[i]? = some w → Kp M0 H1 H' → ∀ Y : V → Hp → Prop, Y w H' → g x (wipe σ vs) H' fun σ2 H2 => wipe σ2 vs = wipe σ vs ∧ te σ2 H2 Y)
    (hq : ∀ (D : Addr) (H' : Hp), H1 D = none → Kp M0 H1 H' → H' D = some (.lst ws) → Q (.ref D) H') : LcLg K g tYes te vs σ Q (.ref a) H1 := by
  refine ⟨a, rfl, ⟨xs, sqL_mk hx⟩, fun D hD => ⟨fun i m H => m = xs.length - i ∧ i ≤ xs.length ∧ Kp M0 H1 H ∧ H D = some (.lst (ws.take i)), ⟨xs.length, rfl, Nat.zero_le _, Kp.new hD, by rw [upd_same]; rfl⟩, ?_⟩⟩
  rintro i m H ⟨rfl, hi, kp, hd⟩
  have qx : SqL K H a xs := sqL_mk (kp _ _ hx fun z => z)
  by_cases hlt : i < xs.length
  · have ew : ws[i]? = some ws[i] := List.getElem?_eq_getElem (by omega)
    refine .inr ⟨⟨xs, xs[i], qx, by simp [hlt]⟩, fun H' => Kp M0 H1 H' ∧ H' D = some (.lst (ws.take (i + 1))), fun H' ⟨k', h'⟩ => ⟨xs.length - (i + 1), by omega, rfl, hlt, k', h'⟩, fun v H' y => ?_⟩
    obtain ⟨e, y⟩ := y
    subst e
    refine hs i v ws[i] _ (y xs qx) ew kp _ ?_
    exact ⟨ws.take i, hd, by rw [List.length_take]; omega, kp.at hD, by rw [upd_same, take_snoc ew]⟩
  · have e : i = xs.length := by omega
    subst e
    refine .inl ⟨⟨xs, qx, Nat.le_refl _⟩, hq D H hD kp ?_⟩
    rw [List.take_of_length_le (by omega)] at hd
    exact hd
end
/-! ### a dict from points to points -/
def ptK (x : Pt) : List Key := [.inl x.1, .inl x.2]
theorem ptK_inj {x y : Pt} (h : ptK x = ptK y) : x = y := by
  unfold ptK at h
  injection h with h1 h2
  injection h1 with h1
  injection h2 with h2 _
  injection h2 with h2
  exact Prod.ext h1 h2
/-- the dict at d leads olds to news -/
structure LedBy (K : PySem.W.Frag) (H : Hp) (d : Addr) (olds news : List Pt) : Prop where
  ex : ∃ kvs : List (List Key × V), H d = some (.dT kvs) ∧ kvs.map (·.1) = olds.map ptK ∧ DpAll K H (kvs.map (·.2)) (news.map ptD)
  nd : olds.Nodup
  l : olds.length = news.length
theorem LedBy.tk {K : PySem.W.Frag} {H H' : Hp} {d : Addr} {olds news : List Pt} (h : LedBy K H d olds news) (hd : H' d = H d) (t : Tk H H') : LedBy K H' d olds news := by
  obtain ⟨kvs, e1, e2, e3⟩ := h.ex
  exact ⟨⟨kvs, by rw [hd]; exact e1, e2, pts_tk e3 t⟩, h.nd, h.l⟩
theorem valV_at : ∀ {kvs : List (List Key × V)} {olds : List Pt} {x : Pt}, kvs.map (·.1) = olds.map ptK → x ∈ olds → ∃ kv, kvs[olds.idxOf x]? = some kv ∧ valV kvs (ptK x) = some kv.2
  | [], olds, x, e, m => by
    cases olds with
    | nil => simp at m
    | cons => simp at e
  | kv :: kvs, [], x, e, m => by simp at m
  | kv :: kvs, o :: olds, x, e, m => by
    rw [List.map_cons, List.map_cons] at e
    injection e with e1 e2
    by_cases z : o = x
    · subst z
      refine ⟨kv, by simp, ?_⟩
      unfold valV
      rw [List.find?_cons, e1]; simp
    · have m2 : x ∈ olds := by
        rcases List.mem_cons.mp m with q | q
        · exact absurd q.symm z
        · exact q
      obtain ⟨kw, h1, h2⟩ := valV_at e2 m2
      have ix : (o :: olds).idxOf x = olds.idxOf x + 1 := by
        have : (o == x) = false := beq_eq_false_iff_ne.mpr z
        rw [List.idxOf_cons, this]; rfl
      refine ⟨kw, by rw [ix]; simpa using h1, ?_⟩
      unfold valV at h2 ⊢
      rw [List.find?_cons, e1]
      have : decide (ptK o = ptK x) = false := decide_eq_false fun q => z (ptK_inj q)
      rw [this]; exact h2
theorem LedBy.get {K : PySem.W.Frag} {H : Hp} {d : Addr} {olds news : List Pt} {x : Pt} {v : V} (h : LedBy K H d olds news) (m : x ∈ olds) (dv : Dp K H v (ptD x)) : ∃ u, DGet H d v (some u) ∧ Dp K H u (ptD (leadP olds news x)) := by
  obtain ⟨kvs, e1, e2, e3⟩ := h.ex
  obtain ⟨b, rfl, hb⟩ := pt_tup dv
  obtain ⟨kv, g1, g2⟩ := valV_at e2 m
  have hlt : olds.idxOf x < news.length := by rw [← h.l]; exact List.idxOf_lt_length_of_mem m
  refine ⟨kv.2, ?_, ?_⟩
  · have := DGet.t (H := H) (a := d) (b := b) (kvs := kvs) (k := ptK x) e1 hb
    rw [g2] at this; exact this
  · obtain ⟨dd, f1, f2⟩ := dps_get e3 (i := olds.idxOf x) (v := kv.2) (by rw [List.getElem?_map, g1]; rfl)
    rw [List.getElem?_map, atP_some hlt] at f1
    cases f1
    exact f2
theorem LedBy.has {K : PySem.W.Frag} {H : Hp} {d : Addr} {olds news : List Pt} {x : Pt} {v : V} (h : LedBy K H d olds news) (dv : Dp K H v (ptD x)) : ∃ o, DGet H d v o ∧ o.isSome = decide (x ∈ olds) := by
  obtain ⟨kvs, e1, e2, e3⟩ := h.ex
  obtain ⟨b, rfl, hb⟩ := pt_tup dv
  refine ⟨_, DGet.t (H := H) (a := d) (b := b) (kvs := kvs) (k := ptK x) e1 hb, ?_⟩
  by_cases m : x ∈ olds
  · obtain ⟨kv, g1, g2⟩ := valV_at e2 m
    rw [g2, decide_eq_true m]; rfl
  · rw [decide_eq_false m]
    unfold valV
    have : kvs.find? (fun kv => decide (kv.1 = ptK x)) = none := List.find?_eq_none.mpr fun kv hkv z => m (by
      have e : kv.1 = ptK x := of_decide_eq_true z
      have : kv.1 ∈ olds.map ptK := by rw [← e2]; exact List.mem_map.mpr ⟨kv, hkv, rfl⟩
      obtain ⟨y, hy, q⟩ := List.mem_map.mp this
      rw [← ptK_inj (q.trans e)]; exact hy)
    rw [this]; rfl
/-- dict(zip(points, places)) -/
theorem keyed_pts {K : PySem.W.Frag} {H : Hp} {xs ys : List V} {olds news : List Pt} (dx : DpAll K H xs (olds.map ptD)) (dy : DpAll K H ys (news.map ptD)) (hl : olds.length = news.length) (nd : olds.Nodup) :
    KeyedBy H xs ys ((olds.zip ys).map fun p => (ptK p.1, p.2)) ∧ ((olds.zip ys).map fun p => (ptK p.1, p.2)).length = olds.length ∧ ∀ p, H p = none → LedBy K (upd H p (.dT ((olds.zip ys).map fun p => (ptK p.1, p.2)))) p olds news := by
  have lx := dps_len dx
  have ly := dps_len dy
  rw [List.length_map] at lx ly
  have kl : ((olds.zip ys).map fun p => (ptK p.1, p.2)).length = olds.length := by rw [List.length_map, List.length_zip]; omega
  have firsts : ((olds.zip ys).map fun p => (ptK p.1, p.2)).map (·.1) = olds.map ptK := by
    rw [List.map_map]
    have : ((fun x : List Key × V => x.1) ∘ fun p : Pt × V => (ptK p.1, p.2)) = ptK ∘ (·.1) := rfl
    rw [this, ← List.map_map, List.map_fst_zip (by omega)]
  have seconds : ((olds.zip ys).map fun p => (ptK p.1, p.2)).map (·.2) = ys := by
    rw [List.map_map]
    have : ((fun x : List Key × V => x.2) ∘ fun p : Pt × V => (ptK p.1, p.2)) = (·.2) := rfl
    rw [this, List.map_snd_zip (by omega)]
  refine ⟨⟨fun i k v e => ?_, by rw [kl, lx], by rw [kl]; omega, ?_⟩, kl, fun p hp => ⟨⟨_, upd_same, firsts, ?_⟩, nd, hl⟩⟩
  · rw [List.getElem?_map] at e
    cases e2 : (olds.zip ys)[i]? with
    | none => rw [e2] at e; cases e
    | some q =>
      rw [e2] at e
      cases e
      obtain ⟨a1, a2⟩ := List.getElem?_zip_eq_some.mp e2
      obtain ⟨u, h1, h2⟩ := dps_get' dx (i := i) (d := ptD q.1) (by rw [List.getElem?_map, a1]; rfl)
      obtain ⟨b, rfl, hb⟩ := pt_tup h2
      exact ⟨b, h1, hb, a2⟩
  · rw [firsts]
    exact nd.map ptK (fun _ _ h q => h (ptK_inj q))
  · rw [seconds]
    exact pts_tk dy (Tk.new hp)
end G
set_option Elab.async false
set_option linter.all false
set_option maxRecDepth 100000
set_option maxHeartbeats 2000000
/-! tuples whose object is known; their methods -/
namespace G
open PySem L2 PySem.Spec PyProof.Rows
def tupO (us : List Value) : Obj := { cls := .type "tuple", data := .seq us.toArray }
/-- a tuple whose object is known -/
def FzT (H : Hp) (a : Addr) (xs : List V) : Prop := ∃ us, H a = some (.frz (tupO us) (.tup xs))
theorem FzT.sq {K : PySem.W.Frag} {H : Hp} {a : Addr} {xs : List V} (h : FzT H a xs) : SqT K H a xs := by
  obtain ⟨us, e⟩ := h
  exact Or.inl (Or.inr ⟨_, e⟩)
theorem FzT.kp {M : Addr → Prop} {H H' : Hp} {a : Addr} {xs : List V} (h : FzT H a xs) (k : Kp M0 H H') : FzT H' a xs := by
  obtain ⟨us, e⟩ := h
  exact ⟨us, k _ _ e fun z => z⟩
/-- (e, ..) laid as its object -/
def tTupF : TA → TE := fun t σ H Q => t σ H fun xs H1 => xs.length ≤ sizeLine ∧ ∀ p us, H1 p = none → Vals xs us → Q (.ref p) (upd H1 p (.frz (tupO us) (.tup xs)))
def rTupF (K : PySem.W.Frag) : List V → Hp → VK → Prop := fun xs H Q => ∃ p ys, xs = [.ref p] ∧ SqL K H p ys ∧ ∀ l, H l = none → ∀ us, Q (.ref l) (upd H l (.frz (tupO us) (.tup ys)))
def rRepF : R2 := fun x y H Q => ∃ (l : Addr) (k : Int) (z : V), x = .ref l ∧ y = .int k ∧ FzT H l [z] ∧ 0 ≤ k ∧ k ≤ 1000 ∧ (k = 1 → Q (.ref l) H) ∧ (k ≠ 1 → ∀ p, H p = none → ∀ ws, Q (.ref p) (upd H p (.frz (tupO ws) (.tup (List.replicate k.toNat z)))))
def tBMF (r : V → List V → Hp → VK → Prop) (to : TE) (t : TA) : TE := fun σ H Q => to σ H fun x H1 => (∃ a xs, x = .ref a ∧ FzT H1 a xs) ∧ t σ H1 fun vs H2 => r x vs H2 Q
section
variable {X : Cx} {es : List Expr} {t : TA} {pos : Pos} {k : Nat}
theorem pe_tupF (ha : PA X es t) : PE X (.Tuple es k pos) (tTupF t) := by
  constructor
  intro pins s σ H Q I h
  refine wpAny_Tuple (thn (ha.run pos pins s σ H _ I h) fun us s1 hh => ?_)
  obtain ⟨xs, H1, I1, r1, hl, q⟩ := hh
  have hus : us.length ≤ sizeLine := by rw [← Paired.length r1]; exact hl
  refine ⟨hus, ?_⟩
  have hf := I1.hok.fresh (Nat.le_refl s1.heap.objs.size)
  obtain ⟨hp, g, dr, tk, os⟩ := s1
  have got : (hp.push (tupO us)).get? hp.objs.size = some (tupO us) := Heap.get?_push_size _ rfl
  exact ⟨.ref hp.objs.size, _, I1.laid (o := .frz (tupO us) (.tup xs)) (t' := tk) (a := hp.objs.size) (h' := hp.push (tupO us)) (fun b u e => Heap.get?_push_of_some _ e) (Nat.le_refl _) (show _ = some _ ∧ ObjOk _ _ _ _ _ (.tup xs) from ⟨got, hl, us, r1, _, got, rfl, 0, rfl⟩), rfl, q _ us hf r1⟩
theorem c_tupleF (K : PySem.W.Frag) (h : X.K = K := by rfl) : CallR X (.type "tuple") (rTupF K) := by
  subst h
  intro pins s σ H xs us Q I r hh
  obtain ⟨p, ys, rfl, hp, q⟩ := hh
  obtain ⟨u1, rfl, r1⟩ := vals1 r
  obtain rfl : u1 = .ref p := r1
  obtain ⟨its, rv, pl, hz⟩ := I.list hp
  refine call_tuple_list pl.isList (fun h' kk => ?_) (by have := rv.length; simp; omega)
  have I2 := I.kept (t' := s.toks) (h' := h') kk
  have got : (h'.push (tupO its)).get? h'.objs.size = some (tupO its) := Heap.get?_push_size _ rfl
  exact ⟨.ref h'.objs.size, _, I2.laid (o := .frz (tupO its) (.tup ys)) (t' := s.toks) (a := h'.objs.size) (h' := h'.push (tupO its)) (fun b u e => Heap.get?_push_of_some _ e) (Nat.le_refl _) (show _ = some _ ∧ ObjOk _ _ _ _ _ (.tup ys) from ⟨got, hz, its, rv, _, got, rfl, 0, rfl⟩), rfl, q _ (I2.hok.fresh (Nat.le_refl _)) its⟩
theorem foldl_rep {α : Type} (u : α) : ∀ (n : Nat) (acc : List α), List.foldl (fun x1 x2 : Array α => x1 ++ x2) acc.toArray (List.replicate n #[u]) = (acc ++ List.replicate n u).toArray
  | 0, acc => by simp
  | n + 1, acc => by
    rw [List.replicate_succ, List.foldl_cons, show acc.toArray ++ #[u] = (acc ++ [u]).toArray by simp, foldl_rep u n (acc ++ [u]), List.replicate_succ]
    simp
theorem op_repF : OpR X (binaryOp .Mult) rRepF := by
  intro pins s σ H x y v u Q I rx ry h
  obtain ⟨l, k, z, rfl, rfl, ⟨us, hT⟩, h1, h2, q1, q⟩ := h
  obtain ⟨ho, _, its, rv, o, ho', hc, n, hd⟩ := I.hok l _ hT
  obtain rfl : v = .ref l := rx
  obtain ⟨t, rfl⟩ := ry
  rw [ho] at ho'
  cases ho'
  have e1 : us = its := by
    have : Data.seq us.toArray = Data.seq its.toArray n := hd
    injection this with h1 _
    have := congrArg Array.toList h1
    simpa using this
  subst e1
  obtain ⟨u0, rfl, r0⟩ := vals1 rv
  have wlk : ∀ {Q' : Value → Shared → Prop}, wpAny (model X.prog X.w) X.A (call (.builtin "tuple.__mul__") [.ref l, .int k t]) Q' X.xe s → wpAny (model X.prog X.w) X.A (binaryOp .Mult (.ref l) (.int k t)) Q' X.xe s := fun hh =>
    wpAny_binaryOp_repeat_ref (T := "tuple") (U := "int") (by decide) ⟨_, ho, rfl⟩ (fun s' => typeIs_int s' k t) noFill_tuple_mul F.fills_int_mul F.slot_int_rmul repeat_tuple F.slot_int_index.lookup
      (call_meets F.slot_int_rmul (typeIs_int s k t) F.entry_int_rmul (F.args_int_rmul_2 _ _) (int_rmul_tuple k t l _ _ _ _) ⟨ho, rfl, ⟨_, ho, rfl⟩, hh⟩)
  have laid : ∀ ws : List Value, Vals (List.replicate k.toNat z) ws → k ≠ 1 → EP X pins σ Q (.ref s.heap.objs.size) { s with heap := s.heap.push (tupO ws) } := fun ws rw' k1 => by
    have got : (s.heap.push (tupO ws)).get? s.heap.objs.size = some (tupO ws) := Heap.get?_push_size _ rfl
    have hz : (List.replicate k.toNat z).length ≤ sizeLine := by rw [List.length_replicate, sizeLine_eq]; omega
    exact ⟨.ref s.heap.objs.size, _, I.laid (o := .frz (tupO ws) (.tup (List.replicate k.toNat z))) (t' := s.toks) (a := s.heap.objs.size) (h' := s.heap.push (tupO ws)) (fun b u e => Heap.get?_push_of_some _ e) (Nat.le_refl _) (show _ = some _ ∧ ObjOk _ _ _ _ _ (.tup _) from ⟨got, hz, ws, rw', _, got, rfl, 0, rfl⟩), rfl, q k1 _ (I.hok.fresh (Nat.le_refl _)) ws⟩
  refine wlk ?_
  by_cases one : k = 1
  · subst one
    exact call_meets F.slot_tuple_mul ⟨_, ho, rfl⟩ F.entry_tuple_mul (F.args_tuple_mul_2 _ _) (tuple_mul1 l _ _ _ _ t (by simp)) ⟨ho, ⟨.ref l, H, I, rfl, q1 rfl⟩⟩
  by_cases ze : k = 0
  · subst ze
    exact call_meets F.slot_tuple_mul ⟨_, ho, rfl⟩ F.entry_tuple_mul (F.args_tuple_mul_2 _ _) (tuple_mul0 l _ _ _ _ t (by simp)) ⟨ho, laid [] .nil one⟩
  · have fe : List.foldl (fun x1 x2 : Array Value => x1 ++ x2) #[] (List.replicate k.toNat [u0].toArray) = (List.replicate k.toNat u0).toArray := by simpa using foldl_rep u0 k.toNat []
    have vr : ∀ n : Nat, Vals (List.replicate n z) (List.replicate n u0) := fun n => by
      induction n with
      | zero => exact .nil
      | succ n ih => rw [List.replicate_succ, List.replicate_succ]; exact .cons r0 ih
    have L := laid (List.replicate k.toNat u0) (vr _) one
    unfold tupO at L
    rw [← fe] at L
    refine call_meets F.slot_tuple_mul ⟨_, ho, rfl⟩ F.entry_tuple_mul (F.args_tuple_mul_2 _ _) (tuple_mulW l [u0].toArray _ _ _ k t ?_ ?_ ?_ ?_ ?_ ?_) ⟨ho, L⟩
    · simp; omega
    · simp; omega
    · simp; omega
    · simp; omega
    · unfold Builtin.Tuple.tupleTooMany
      simp
      have := sizeLine_eq
      omega
    · rw [fe]; simp; rw [sizeLine_eq]; omega
theorem e_bmF {o e : Expr} {es : List Expr} {to : TE} {t : TA} {name : Str} {apos cpos : Pos} {id : String} {r : V → List V → Hp → VK → Prop} (pa : PlainAttrs "tuple") (slot : Slot "tuple" name id) (hty : typeOf (.builtin id) = pure (.type "method_descriptor")) (hm : MtR X id r) (ho : PE X o to) (ha : PA X (e :: es) t)
    (hbase : attributeBase o name X.env (eval o X.env) = eval o X.env := by rfl) (hfew : ((((backTo cpos (starEach (e :: es) X.env)).all fun x => !x.fst) && (backToKw cpos (keywordEach [] X.env)).all fun x => x.fst.isSome) && decide (((e :: es).length + ([] : List Keyword).length + if ([] : List Keyword).isEmpty = true then 0 else 1) < 30)) = true := by rfl) (hline : (apos.endLine == cpos.line) = true := by rfl)
    (hs : starEach (e :: es) X.env = (false, eval e X.env) :: starEach es X.env := by rfl) (hplain : ((backTo cpos (starEach es X.env)).any fun x => x.fst) = false := by rfl) : PE X (.Call (.Attribute o name apos) (e :: es) [] cpos) (tBMF r to t) := by
  constructor
  intro pins s σ H Q I h
  refine wpAny_Call_method_late hbase hfew hline rfl (thn (ho.run pins s σ H _ I h) fun v s1 hh => ?_)
  obtain ⟨x, H1, I1, r1, ⟨a, xs, rfl, us, e1⟩, q1⟩ := hh
  obtain rfl : v = .ref a := r1
  have got := (I1.hok a _ e1).1
  refine ⟨"tuple", id, pa, slot, hty, ⟨_, got, rfl⟩, fun b eb => by cases eb; exact ⟨_, got, rfl⟩, ?_⟩
  have hA := ha.run cpos pins s1 σ H1 _ I1 q1
  rw [hs] at hA ⊢
  refine Calls.callWith_builtin (show (false || ((backTo cpos (starEach es X.env)).any fun x => x.fst)) = false by rw [hplain]; rfl) (Calls.evalArgs_plain (thn hA fun us s2 h2 => ?_))
  obtain ⟨vs, H2, I2, r2, q2⟩ := h2
  exact hm pins s2 σ H2 (.ref a) vs (.ref a) us Q I2 rfl r2 q2
end
end G
set_option Elab.async false
set_option linter.all false
set_option maxRecDepth 100000
set_option maxHeartbeats 4000000
set_option exponentiation.threshold 10000
namespace G
open PySem L2 LamX NdefX
section
variable {P : Program} {w : World} {K : PySem.W.Frag} {mg : Str → Option Value} {base : Heap}
def sp_codes_of (K : PySem.W.Frag) : Sp := fun vs H Q _ => ∃ (a c : Addr) (aw cw : List V) (l m : List Pt), vs = [.ref a, .ref c] ∧ SqT K H a aw ∧ SqT K H c cw ∧ DpAll K H aw (l.map ptD) ∧ DpAll K H cw (m.map ptD) ∧ (∀ x ∈ l, PtOk x ∧ Sz 4000 x) ∧ PtsOk 4000 m ∧ l.length ≤ 1000 ∧ m.length < 1000 ∧
  ∀ (p : Addr) (H' : Hp), Kp M0 H H' → FzT H' p ((codesP l m).map natV) → Q (.ref p) H'
theorem ok_codes_of (W : Ds K mg) : FnOk P w K mg base CX0 3 W.f_codes_of W.fd_codes_of P_codes_of (sp_codes_of K) := by
  refine W.D_codes_of.F.ok sc_codes_of (fun vs H Q E h => ?len) (fun cdv A outer s H vs Q E hr h => ?body)
  case len =>
    obtain ⟨a, c, aw, cw, l, m, rfl, _⟩ := h
    rfl
  case body =>
    obtain ⟨a, c, aw, cw, l, m, rfl, sa, sc, da, dc, ol, om, hl, hm, k⟩ := h
    have nd := sc_codes_of.nd
    have hu := hu_of hr
    have hu64 := hr.units
    have hu65 := hu65_of hr
    refine ⟨_, (pss_cons (ps_if (pt_not (p_truth K (pv 1) (by intro _; rfl)))
     (pss_one (ps_ret (pe_op op_repF (pe_tupF (pa_cons pe_int pa_nil)) (pe_callB (c_len K) (by rfl) W.T.b_len (by decide +kernel) (pa_cons (pv 0) pa_nil)))))
     pss_nil)
  (pss_one (ps_ret (pe_callTy (c_tupleF K) (by rfl) W.T.b_tuple (by decide +kernel) (pa_cons (pe_lc (own := [("place", 2)]) rfl nd (i_tup K (pv 0)) (blkOk_by (N := N_codes_of) (sc := defScope s_codes_of) (by decide +kernel)) (fun _ _ _ _ _ => (pg_name (i := 2) nd rfl (by first | exact Or.inl rfl | exact Or.inr rfl))) (fun _ _ _ _ _ => pts_nil) (fun _ _ _ _ _ => (pe_call (ok_code_of W) (hr.mono (by first | decide | omega)) rfl W.D_code_of.g W.D_code_of.F.kp W.D_code_of.b .nil pass0 (pa_cons (pv 1) (pa_cons (pv 2) pa_nil))))) pa_nil))))), ?_⟩
    simp only [tSeq, tIfS, tNext, tRet, tRetN, tAsg, tDrop, tPar, tCons, tNil, tCB, tVar, tC, tOp, rI, rI0, rU, tTest, tB, tTup, tLst, gName, tIf, tAnd, tOr, tNot, tAndV, tOrV, tNotV, tUn, tCall, tChain, tSl, tNoPart, tPart, tBM, tBM0, tDGet, sDPut, tAugS, ipI, tAug, rIxT, rIxL, rMulK, rLenK, rLstK, tTruK, gTup, gCons, gNil, rEq, rNe, scal, tNever, rMulK, rGcd, L2.start, List.map, List.length, List.replicate, List.cons_append, List.nil_append, List.append_nil, List.set, List.set_cons_zero, List.set_cons_succ, List.getElem?_cons_succ, List.getElem?_cons_zero, Option.some.injEq, List.cons.injEq, V.int.injEq, V.str.injEq, V.bl.injEq, V.ref.injEq, and_true, true_and, exists_eq_left, exists_eq_left', exists_eq_right, exists_eq_right', exists_eq, exists_and_left, exists_and_right, and_assoc, exists_false, false_and, and_false, or_false, false_or, reduceCtorEq, Nat.reduceAdd, Nat.reduceSub, List.append_assoc, eq_self, if_true, if_false, Bool.false_eq_true, decide_eq_true_eq, List.length_cons, List.length_nil]
    have al : aw.length = l.length := by rw [dps_len da, List.length_map]
    have cl : cw.length = m.length := by rw [dps_len dc, List.length_map]
    refine ⟨!cw.isEmpty, Or.inr (Or.inl ⟨cw, sc, rfl⟩), ite2 (fun z => ?_) (fun z0 => ?_)⟩
    · have e : m = [] := by
        have : cw = [] := by simpa using z
        rw [this] at cl; exact List.length_eq_zero_iff.mp cl.symm
      subst e
      rw [codes_nil, List.map_replicate] at k
      simp only [tTupF, rRepF, tSeq, tIfS, tNext, tRet, tRetN, tAsg, tDrop, tPar, tCons, tNil, tCB, tVar, tC, tOp, rI, rI0, rU, tTest, tB, tTup, tLst, gName, tIf, tAnd, tOr, tNot, tAndV, tOrV, tNotV, tUn, tCall, tChain, tSl, tNoPart, tPart, tBM, tBM0, tDGet, sDPut, tAugS, ipI, tAug, rIxT, rIxL, rMulK, rLenK, rLstK, tTruK, gTup, gCons, gNil, rEq, rNe, scal, tNever, rMulK, rGcd, L2.start, List.map, List.length, List.replicate, List.cons_append, List.nil_append, List.append_nil, List.set, List.set_cons_zero, List.set_cons_succ, List.getElem?_cons_succ, List.getElem?_cons_zero, Option.some.injEq, List.cons.injEq, V.int.injEq, V.str.injEq, V.bl.injEq, V.ref.injEq, and_true, true_and, exists_eq_left, exists_eq_left', exists_eq_right, exists_eq_right', exists_eq, exists_and_left, exists_and_right, and_assoc, exists_false, false_and, and_false, or_false, false_or, reduceCtorEq, Nat.reduceAdd, Nat.reduceSub, List.append_assoc, eq_self, if_true, if_false, Bool.false_eq_true, decide_eq_true_eq, List.length_cons, List.length_nil]
      refine ⟨by decide, fun p us hp hv => ⟨aw, Or.inr (sqT_tk (Tk.new hp) sa), .int 0, ⟨us, upd_same⟩, by omega, by omega, fun e1 => ?_, fun _ q hq ws => ?_⟩⟩
      · refine k p _ (Kp.new hp) ?_
        rw [show l.length = 1 by omega]
        exact ⟨us, upd_same⟩
      · refine k q _ ((Kp.new hp).trans (Kp.new hq)) ?_
        rw [show Int.toNat (aw.length : Int) = l.length by omega]
        exact ⟨ws, upd_same⟩
    · refine tlcT ?_
      simp only [tSeq, tIfS, tNext, tRet, tRetN, tAsg, tDrop, tPar, tCons, tNil, tCB, tVar, tC, tOp, rI, rI0, rU, tTest, tB, tTup, tLst, gName, tIf, tAnd, tOr, tNot, tAndV, tOrV, tNotV, tUn, tCall, tChain, tSl, tNoPart, tPart, tBM, tBM0, tDGet, sDPut, tAugS, ipI, tAug, rIxT, rIxL, rMulK, rLenK, rLstK, tTruK, gTup, gCons, gNil, rEq, rNe, scal, tNever, rMulK, rGcd, L2.start, List.map, List.length, List.replicate, List.cons_append, List.nil_append, List.append_nil, List.set, List.set_cons_zero, List.set_cons_succ, List.getElem?_cons_succ, List.getElem?_cons_zero, Option.some.injEq, List.cons.injEq, V.int.injEq, V.str.injEq, V.bl.injEq, V.ref.injEq, and_true, true_and, exists_eq_left, exists_eq_left', exists_eq_right, exists_eq_right', exists_eq, exists_and_left, exists_and_right, and_assoc, exists_false, false_and, and_false, or_false, false_or, reduceCtorEq, Nat.reduceAdd, Nat.reduceSub, List.append_assoc, eq_self, if_true, if_false, Bool.false_eq_true, decide_eq_true_eq, List.length_cons, List.length_nil]
      refine lcTe kr0 (l.map ptD) ((codesP l m).map fun n => PyData.int (n : Nat)) trivial (by simp [codesP]; rw [sizeLine_eq]; omega) (by simp [codesP]) sa da (ptDs_tup _) (nats_tup _) (fun i d e x H2 h1 h2 dx2 k2 _ Q' q => ?_) fun D H2 vs hD k2 _ hd2 ha2 => ?_
      · rw [List.getElem?_map] at h1
        rw [List.getElem?_map, codesP, List.getElem?_map] at h2
        cases e2 : l[i]? with
        | none => rw [e2] at h1; cases h1
        | some y =>
          rw [e2] at h1 h2
          cases h1
          cases h2
          obtain ⟨oy, sy⟩ := ol y (List.mem_of_getElem? e2)
          simp only [tSeq, tIfS, tNext, tRet, tRetN, tAsg, tDrop, tPar, tCons, tNil, tCB, tVar, tC, tOp, rI, rI0, rU, tTest, tB, tTup, tLst, gName, tIf, tAnd, tOr, tNot, tAndV, tOrV, tNotV, tUn, tCall, tChain, tSl, tNoPart, tPart, tBM, tBM0, tDGet, sDPut, tAugS, ipI, tAug, rIxT, rIxL, rMulK, rLenK, rLstK, tTruK, gTup, gCons, gNil, rEq, rNe, scal, tNever, rMulK, rGcd, L2.start, List.map, List.length, List.replicate, List.cons_append, List.nil_append, List.append_nil, List.set, List.set_cons_zero, List.set_cons_succ, List.getElem?_cons_succ, List.getElem?_cons_zero, Option.some.injEq, List.cons.injEq, V.int.injEq, V.str.injEq, V.bl.injEq, V.ref.injEq, and_true, true_and, exists_eq_left, exists_eq_left', exists_eq_right, exists_eq_right', exists_eq, exists_and_left, exists_and_right, and_assoc, exists_false, false_and, and_false, or_false, false_or, reduceCtorEq, Nat.reduceAdd, Nat.reduceSub, List.append_assoc, eq_self, if_true, if_false, Bool.false_eq_true, decide_eq_true_eq, List.length_cons, List.length_nil]
          exact ⟨c, x, cw, m, y, rfl, Or.inr (sqT_tk (Tk.of0 k2) sc), pts_tk dc (Tk.of0 k2), dx2, om, oy, sy, by omega, q _ _ (Kp.refl _) trivial (.int _)⟩
      · rw [vals_nat ha2] at hd2
        exact ⟨D, _, rfl, sqL_mk hd2, fun t ht us => k t _ (k2.trans (Kp.new ht)) ⟨us, upd_same⟩⟩
end
end G
set_option Elab.async false
set_option linter.all false
set_option maxRecDepth 100000
/-! texts of values are one to one: plain mathematics -/
namespace G
open PySem L2
def tx (s : Str) : List Nat := s.cps.toList
theorem tx_app (a b : Str) : tx (a ++ b) = tx a ++ tx b := Array.toList_append
theorem tx_inj {a b : Str} (h : tx a = tx b) : a = b := by
  cases a with
  | mk x => cases b with
    | mk y => exact congrArg Str.mk (Array.toList_inj.mp h)
theorem span_inj {P : Nat → Prop} : ∀ {a b r s : List Nat}, (∀ c ∈ a, P c) → (∀ c ∈ b, P c) → (∀ c, r.head? = some c → ¬ P c) → (∀ c, s.head? = some c → ¬ P c) → a ++ r = b ++ s → a = b ∧ r = s
  | [], [], _, _, _, _, _, _, h => ⟨rfl, h⟩
  | [], y :: b, r, s, _, hb, hr, _, h => by
    have h' : r = y :: (b ++ s) := h
    exact absurd (hb y (by simp)) (hr y (by rw [h']; rfl))
  | x :: a, [], r, s, ha, _, _, hs, h => by
    have h' : x :: (a ++ r) = s := h
    exact absurd (ha x (by simp)) (hs x (by rw [← h']; rfl))
  | x :: a, y :: b, r, s, ha, hb, hr, hs, h => by
    have h' : x :: (a ++ r) = y :: (b ++ s) := h
    injection h' with e1 e2
    obtain ⟨e3, e4⟩ := span_inj (fun c hc => ha c (by simp [hc])) (fun c hc => hb c (by simp [hc])) hr hs e2
    exact ⟨by rw [e1, e3], e4⟩
/-- what may follow a value's text: nothing, a blank, > | } -/
def Stop (r : List Nat) : Prop := ∀ c, r.head? = some c → c = 32 ∨ c = 62 ∨ c = 124 ∨ c = 125
theorem stop_cons {c : Nat} {r : List Nat} (h : c = 32 ∨ c = 62 ∨ c = 124 ∨ c = 125) : Stop (c :: r) := fun d hd => by cases hd; exact h
def isD (c : Nat) : Prop := c = 45 ∨ (48 ≤ c ∧ c ≤ 57)
def isP (c : Nat) : Prop := isD c ∨ c = 47
def isL (c : Nat) : Prop := 97 ≤ c ∧ c ≤ 122
theorem int_chars (i : Int) : ∀ c ∈ tx (PyData.shown (.int i)), isD c := fun c hc => by
  by_cases z : isD c
  · exact z
  · refine absurd hc (PyProof.Rows.shown_int_free' ?_ i)
    unfold isD at z
    omega
theorem int_one {i j : Int} (h : PyData.shown (.int i) = PyData.shown (.int j)) : i = j := by
  rw [PyData.shown_int, PyData.shown_int] at h
  have h2 := congrArg (fun s : Str => s.cps.toList) h
  simp only [PyProof.Rows.signs_ofString] at h2
  have inj : Function.Injective Char.toNat := fun a b e => Char.ext (UInt32.toNat_inj.mp e)
  have h3 := (List.map_inj_right fun a b e => inj e).mp h2
  exact Int.repr_inj.mp (String.toList_inj.mp h3)
theorem int_ne (i : Int) : ∃ c r, tx (PyData.shown (.int i)) = c :: r ∧ isD c := by
  cases e : tx (PyData.shown (.int i)) with
  | cons c r => exact ⟨c, r, rfl, int_chars i c (by rw [e]; simp)⟩
  | nil =>
    exfalso
    rw [PyData.shown_int] at e
    have e2 : ((Str.ofString (toString i)).cps.toList) = [] := e
    rw [PyProof.Rows.signs_ofString] at e2
    have e3 : (toString i).toList = [] := List.map_eq_nil_iff.mp e2
    have e4 : (toString i) = toString (toString i) := rfl
    have e5 : i.repr.toList = [] := e3
    have e6 : i.repr = "" := String.toList_eq_nil_iff.mp e5
    rw [Int.repr_eq_if] at e6
    split at e6
    · exact Nat.repr_ne_empty e6
    · have := congrArg String.length e6
      simp at this
theorem tx_lit1 : tx "/" = [47] ∧ tx "<" = [60] ∧ tx ">" = [62] ∧ tx "{" = [123] ∧ tx "|" = [124] ∧ tx "}" = [125] ∧ tx " " = [32] := by decide +kernel
theorem pt_tx (x : Pt) : tx (ptText x) = tx (PyData.shown (.int x.1)) ++ if x.2 = 1 then [] else 47 :: tx (PyData.shown (.int x.2)) := by
  unfold ptText
  split
  · simp
  · rw [tx_app, tx_app, tx_lit1.1]; simp
theorem pt_chars (x : Pt) : ∀ c ∈ tx (ptText x), isP c := fun c hc => by
  rw [pt_tx] at hc
  rcases List.mem_append.mp hc with h | h
  · exact Or.inl (int_chars _ c h)
  · split at h
    · simp at h
    · rcases List.mem_cons.mp h with rfl | h
      · exact Or.inr rfl
      · exact Or.inl (int_chars _ c h)
theorem pt_one {x y : Pt} (h : ptText x = ptText y) : x = y := by
  have e : tx (ptText x) = tx (ptText y) := by rw [h]
  rw [pt_tx, pt_tx] at e
  have hs : ∀ z : Pt, ∀ c, (if z.2 = 1 then [] else 47 :: tx (PyData.shown (.int z.2))).head? = some c → ¬ isD c := fun z c hc => by
    split at hc
    · cases hc
    · cases hc; unfold isD; omega
  obtain ⟨e1, e2⟩ := span_inj (int_chars x.1) (int_chars y.1) (hs x) (hs y) e
  have q1 := int_one (tx_inj e1)
  have q2 : x.2 = y.2 := by
    split at e2
    · rename_i z
      split at e2
      · rename_i z'; rw [z, z']
      · cases e2
    · split at e2
      · cases e2
      · injection e2 with _ e3
        exact int_one (tx_inj e3)
  exact Prod.ext q1 q2
theorem pt_head (x : Pt) : ∃ c r, tx (ptText x) = c :: r ∧ isD c := by
  obtain ⟨c, r, e, h⟩ := int_ne x.1
  exact ⟨c, _, by rw [pt_tx, e]; rfl, h⟩
/-! ### joined texts -/
def jn (vs : List Vl) : List Nat := tx (Txt.join " " (vs.map textV))
theorem jn_nil : jn [] = [] := by unfold jn; rw [TL.join_eq]; rfl
theorem jn_one (v : Vl) : jn [v] = tx (textV v) := by unfold jn; rw [TL.join_eq]; rfl
theorem jn_cons (v u : Vl) (l : List Vl) : jn (v :: u :: l) = tx (textV v) ++ 32 :: jn (u :: l) := by
  unfold jn
  rw [TL.join_eq, TL.join_eq]
  show tx (textV v ++ " " ++ Str.join " " ((u :: l).map textV)) = _
  rw [tx_app, tx_app, tx_lit1.2.2.2.2.2.2]; simp
theorem pts_jn (ps : List Pt) : tx (Txt.join " " (ps.map ptText)) = jn (ps.map .pt) := by
  unfold jn
  rw [List.map_map]
  have e : ps.map ptText = ps.map (textV ∘ Vl.pt) := List.map_congr_left fun x _ => by
    show ptText x = textV (.pt x)
    rw [textV]
  rw [e]
theorem word_tx {n b : Nat} {s : Str} (h : VOk n b (.word s)) : (∃ c r, tx s = c :: r) ∧ ∀ c ∈ tx s, isL c := by
  cases h with
  | word _ o =>
    have o2 := o.2
    unfold wOk at o2
    rw [Bool.and_eq_true] at o2
    constructor
    · have := o2.1
      cases e : tx s with
      | nil =>
        have e' : s.cps.toList = [] := e
        simp [e'] at this
      | cons c r => exact ⟨c, r, rfl⟩
    · intro c hc
      have := List.all_eq_true.mp o2.2 c hc
      unfold isL
      simpa using this
theorem row_tx (vs : List Vl) : tx (textV (.row vs)) = 60 :: (jn vs ++ [62]) := by
  rw [textV, tx_app, tx_app, tx_lit1.2.1, tx_lit1.2.2.1, textVs_map]; rfl
theorem set_tx (ps : List Pt) (ms : List Vl) : tx (textV (.set ps ms)) = 123 :: (jn (ps.map .pt) ++ 124 :: (jn ms ++ [125])) := by
  rw [textV, tx_app, tx_app, tx_app, tx_app, tx_lit1.2.2.2.1, tx_lit1.2.2.2.2.1, tx_lit1.2.2.2.2.2.1, textVs_map, pts_jn]
  show _ = _
  simp [jn]
/-- a text's first sign -/
theorem head_tx {n b : Nat} {x : Vl} (h : VOk n b x) : ∃ c r, tx (textV x) = c :: r ∧ ((∃ s, x = .word s) ∧ isL c ∨ (∃ p, x = .pt p) ∧ isD c ∨ (∃ vs, x = .row vs) ∧ c = 60 ∨ (∃ ps ms, x = .set ps ms) ∧ c = 123) := by
  cases x with
  | word s =>
    obtain ⟨⟨c, r, e⟩, hl⟩ := word_tx h
    exact ⟨c, r, by rw [textV]; exact e, Or.inl ⟨⟨s, rfl⟩, hl c (by rw [e]; simp)⟩⟩
  | pt p =>
    obtain ⟨c, r, e, hd⟩ := pt_head p
    exact ⟨c, r, by rw [textV]; exact e, Or.inr (Or.inl ⟨⟨p, rfl⟩, hd⟩)⟩
  | row vs => exact ⟨60, _, row_tx vs, Or.inr (Or.inr (Or.inl ⟨⟨vs, rfl⟩, rfl⟩))⟩
  | set ps ms => exact ⟨123, _, set_tx ps ms, Or.inr (Or.inr (Or.inr ⟨⟨ps, ms, rfl⟩, rfl⟩))⟩
def One (v : Vl) : Prop := ∀ {m c : Nat} {y : Vl}, VOk m c y → ∀ {r s : List Nat}, Stop r → Stop s → tx (textV v) ++ r = tx (textV y) ++ s → v = y ∧ r = s
theorem not_stop {n b : Nat} {x : Vl} (h : VOk n b x) {e : Nat} (he : e = 62 ∨ e = 124 ∨ e = 125) {r s t : List Nat} : ¬ e :: r = tx (textV x) ++ t := fun q => by
  obtain ⟨c, u, e1, hc⟩ := head_tx h
  rw [e1] at q
  have q' : e :: r = c :: (u ++ t) := q
  injection q' with q1 _
  unfold isL isD at hc
  rcases hc with ⟨_, z⟩ | ⟨_, z⟩ | ⟨_, z⟩ | ⟨_, z⟩ <;> omega
theorem lst_one {m c e : Nat} (he : e = 62 ∨ e = 124 ∨ e = 125) : ∀ {vs ws : List Vl}, (∀ v ∈ vs, One v ∧ ∃ n b, VOk n b v) → (∀ w ∈ ws, VOk m c w) → ∀ {r s : List Nat}, jn vs ++ e :: r = jn ws ++ e :: s → vs = ws ∧ r = s := by
  have st : ∀ {r : List Nat}, Stop (e :: r) := stop_cons (by omega)
  have sb : ∀ {r : List Nat}, Stop (32 :: r) := stop_cons (by omega)
  have hd : ∀ {vs : List Vl}, vs ≠ [] → ∃ v l t, vs = v :: l ∧ jn vs = tx (textV v) ++ t := fun {vs} h => by
    cases vs with
    | nil => exact absurd rfl h
    | cons v l =>
      cases l with
      | nil => exact ⟨v, [], [], rfl, by rw [jn_one]; simp⟩
      | cons u l => exact ⟨v, _, _, rfl, jn_cons v u l⟩
  intro vs
  induction vs with
  | nil =>
    intro ws hv hw r s h
    cases ws with
    | nil => rw [jn_nil] at h; injection h with _ h; exact ⟨rfl, h⟩
    | cons w ws =>
      obtain ⟨v, l, t, e1, e2⟩ := hd (vs := w :: ws) (by simp)
      injection e1 with e3 e4
      subst e3
      rw [jn_nil, e2, List.append_assoc] at h
      exact absurd h (not_stop (hw w (by simp)) he (s := []))
  | cons v vs ih =>
    intro ws hv hw r s h
    obtain ⟨hone, n, b, okv⟩ := hv v (by simp)
    cases ws with
    | nil =>
      obtain ⟨v', l, t, e1, e2⟩ := hd (vs := v :: vs) (by simp)
      injection e1 with e3 e4
      subst e3
      rw [jn_nil, e2, List.append_assoc] at h
      exact absurd h.symm (not_stop okv he (s := []))
    | cons w ws =>
      have okw := hw w (by simp)
      cases vs with
      | nil =>
        cases ws with
        | nil =>
          rw [jn_one, jn_one] at h
          obtain ⟨e1, e2⟩ := hone okw st st h
          injection e2 with _ e2
          exact ⟨by rw [e1], e2⟩
        | cons w2 ws =>
          rw [jn_one, jn_cons, List.append_assoc] at h
          obtain ⟨_, e2⟩ := hone okw st sb h
          injection e2 with e3 _
          omega
      | cons v2 vs =>
        cases ws with
        | nil =>
          rw [jn_one, jn_cons, List.append_assoc] at h
          obtain ⟨_, e2⟩ := hone okw sb st h
          injection e2 with e3 _
          omega
        | cons w2 ws =>
          rw [jn_cons, jn_cons, List.append_assoc, List.append_assoc] at h
          obtain ⟨e1, e2⟩ := hone okw sb sb h
          injection e2 with _ e2
          obtain ⟨e3, e4⟩ := ih (ws := w2 :: ws) (fun x hx => hv x (List.mem_cons_of_mem _ hx)) (fun x hx => hw x (List.mem_cons_of_mem _ hx)) e2
          exact ⟨by rw [e1, e3], e4⟩
theorem pt_is_one {p : Pt} : One (.pt p) := by
  intro m c y oy r s hr hs e
  obtain ⟨d, u, e1, hd⟩ := head_tx oy
  obtain ⟨d2, u2, e3, l2⟩ := pt_head p
  rw [textV] at e
  have e4 := e
  rw [e3, e1] at e4
  have e4' : d2 :: (u2 ++ r) = d :: (u ++ s) := e4
  injection e4' with e5 _
  rw [e5] at l2
  unfold isL isD at hd
  unfold isD at l2
  rcases hd with ⟨_, z⟩ | ⟨⟨p2, rfl⟩, _⟩ | ⟨_, z⟩ | ⟨_, z⟩
  · omega
  · rw [textV] at e
    have ns : ∀ {t : List Nat}, Stop t → ∀ c, t.head? = some c → ¬ isP c := fun ht c hc z => by have := ht c hc; unfold isP isD at z; omega
    obtain ⟨q1, q2⟩ := span_inj (pt_chars p) (pt_chars p2) (ns hr) (ns hs) e
    exact ⟨by rw [pt_one (tx_inj q1)], q2⟩
  all_goals omega
theorem txt_one {n b : Nat} {x : Vl} (h : VOk n b x) : One x := by
  induction h with
  | @word n b w h o =>
    intro m c y oy r s hr hs e
    obtain ⟨_, hl⟩ := word_tx (n := n) (b := b) (.word h o)
    obtain ⟨d, u, e1, hd⟩ := head_tx oy
    obtain ⟨⟨d2, u2, e3⟩, _⟩ := word_tx (n := n) (b := b) (.word h o)
    rw [textV] at e
    have e4 := e
    rw [e3, e1] at e4
    have e4' : d2 :: (u2 ++ r) = d :: (u ++ s) := e4
    injection e4' with e5 _
    have l2 := hl d2 (by rw [e3]; simp)
    rw [e5] at l2
    unfold isL isD at hd
    unfold isL at l2
    rcases hd with ⟨⟨w2, rfl⟩, _⟩ | ⟨_, z⟩ | ⟨_, z⟩ | ⟨_, z⟩
    · rw [textV] at e
      obtain ⟨_, hl2⟩ := word_tx oy
      have ns : ∀ {t : List Nat}, Stop t → ∀ c, t.head? = some c → ¬ isL c := fun ht c hc z => by have := ht c hc; unfold isL at z; omega
      obtain ⟨q1, q2⟩ := span_inj hl hl2 (ns hr) (ns hs) e
      exact ⟨by rw [tx_inj q1], q2⟩
    all_goals omega
  | @pt n b p h s0 => exact pt_is_one
  | @row n b vs h0 h ih =>
    intro m c y oy r s hr hs e
    obtain ⟨d, u, e1, hd⟩ := head_tx oy
    have e4 := e
    rw [row_tx, e1] at e4
    have e4' : 60 :: (jn vs ++ [62] ++ r) = d :: (u ++ s) := e4
    injection e4' with e5 _
    unfold isL isD at hd
    rcases hd with ⟨_, z⟩ | ⟨_, z⟩ | ⟨⟨ws, rfl⟩, _⟩ | ⟨_, z⟩
    · omega
    · omega
    · cases oy with
      | row h02 h2 =>
        rw [row_tx, row_tx] at e
        have e6 : 60 :: (jn vs ++ 62 :: r) = 60 :: (jn ws ++ 62 :: s) := by simpa using e
        injection e6 with _ e6
        obtain ⟨q1, q2⟩ := lst_one (Or.inl rfl) (fun v hv => ⟨ih v hv, _, _, h v hv⟩) h2 e6
        exact ⟨by rw [q1], q2⟩
    · omega
  | @set n b ps ms hp h ih =>
    intro m c y oy r s hr hs e
    obtain ⟨d, u, e1, hd⟩ := head_tx oy
    have e4 := e
    rw [set_tx, e1] at e4
    have e4' : 123 :: (jn (ps.map .pt) ++ 124 :: (jn ms ++ [125]) ++ r) = d :: (u ++ s) := e4
    injection e4' with e5 _
    unfold isL isD at hd
    rcases hd with ⟨_, z⟩ | ⟨_, z⟩ | ⟨_, z⟩ | ⟨⟨qs, ns, rfl⟩, _⟩
    · omega
    · omega
    · omega
    · cases oy with
      | set hq h2 =>
        rw [set_tx, set_tx] at e
        have e6 : 123 :: (jn (ps.map .pt) ++ 124 :: (jn ms ++ 125 :: r)) = 123 :: (jn (qs.map .pt) ++ 124 :: (jn ns ++ 125 :: s)) := by simpa using e
        injection e6 with _ e6
        have a1 : ∀ v ∈ ps.map Vl.pt, One v ∧ ∃ n b, VOk n b v := fun v hv => by
          obtain ⟨p, hp', rfl⟩ := List.mem_map.mp hv
          exact ⟨pt_is_one, 0, b, .pt (hp.ok p hp') (hp.sz p hp')⟩
        have a2 : ∀ w ∈ qs.map Vl.pt, VOk 0 c w := fun w hw => by
          obtain ⟨p, hp', rfl⟩ := List.mem_map.mp hw
          exact .pt (hq.ok p hp') (hq.sz p hp')
        obtain ⟨q1, q2⟩ := lst_one (Or.inr (Or.inl rfl)) a1 a2 e6
        obtain ⟨q3, q4⟩ := lst_one (Or.inr (Or.inr rfl)) (fun v hv => ⟨ih v hv, _, _, h v hv⟩) h2 q2
        have inj : ∀ {l k : List Pt}, l.map Vl.pt = k.map Vl.pt → l = k := fun {l k} z => (List.map_inj_right fun a b y => by injection y).mp z
        exact ⟨by rw [inj q1, q3], q4⟩
/-- TEXTS TELL VALUES -/
theorem text_one {n b m c : Nat} {x y : Vl} (hx : VOk n b x) (hy : VOk m c y) (h : textV x = textV y) : x = y :=
  (txt_one hx hy (r := []) (s := []) (fun _ z => by cases z) (fun _ z => by cases z) (by rw [h])).1
end G
set_option Elab.async false
set_option linter.all false
set_option maxRecDepth 100000
/-! one form: moves behind one another, moves of nothing, placing twice; plain mathematics -/
namespace G
open PySem L2
/-! ### in the order of texts -/
def leT (a b : Vl) : Prop := (textV a).cps.toList ≤ (textV b).cps.toList
theorem text_le_antisymm {a b : Str} (h : a.cps.toList ≤ b.cps.toList) (k : b.cps.toList ≤ a.cps.toList) : a = b := tx_inj (List.le_antisymm h k)
theorem sortZ_asc (l : List (Vl × Str)) : (sortZ l).Pairwise fun p q => p.2.cps.toList ≤ q.2.cps.toList := by
  unfold sortZ
  rw [PySem.W.dataLe_str (fun p : Vl × Str => p.2)]
  have := List.pairwise_mergeSort (le := fun a b : Vl × Str => decide (a.2.cps.toList ≤ b.2.cps.toList)) (fun a b c h k => decide_eq_true (List.le_trans (of_decide_eq_true h) (of_decide_eq_true k)))
    (fun a b => by
      rcases List.le_total a.2.cps.toList b.2.cps.toList with h | h
      · simp [h]
      · simp [h]) l
  exact this.imp fun h => of_decide_eq_true h
theorem sortV_asc (l : List Vl) : (sortV l).Pairwise leT := by
  unfold sortV
  rw [List.pairwise_map]
  have mem : ∀ p ∈ sortZ (l.map fun v => (v, textV v)), p.2 = textV p.1 := fun p hp => by
    have hp : p ∈ l.map fun v => (v, textV v) := List.mem_mergeSort.mp hp
    obtain ⟨v, _, rfl⟩ := List.mem_map.mp hp
    rfl
  refine List.Pairwise.imp_of_mem (fun {p q} hp hq h => ?_) (sortZ_asc (l.map fun v => (v, textV v)))
  unfold leT
  rw [← mem p hp, ← mem q hq]; exact h
theorem sortV_eq {l m : List Vl} (h : l.Perm m) (one : ∀ a ∈ l, ∀ b ∈ l, textV a = textV b → a = b) : sortV l = sortV m := by
  refine List.Perm.eq_of_pairwise (le := leT) (fun a b ha hb h1 h2 => ?_) (sortV_asc l) (sortV_asc m) ((sortV_perm l).trans (h.trans (sortV_perm m).symm))
  exact one a ((sortV_perm l).mem_iff.mp ha) b (h.mem_iff.mpr ((sortV_perm m).mem_iff.mp hb)) (text_le_antisymm h1 h2)
theorem sortV_self {l : List Vl} (h : l.Pairwise leT) (one : ∀ a ∈ l, ∀ b ∈ l, textV a = textV b → a = b) : sortV l = l := by
  refine List.Perm.eq_of_pairwise (le := leT) (fun a b ha hb h1 h2 => ?_) (sortV_asc l) h (sortV_perm l)
  exact one a ((sortV_perm l).mem_iff.mp ha) b hb (text_le_antisymm h1 h2)
theorem oks_one {n b : Nat} {l : List Vl} (h : ∀ v ∈ l, VOk n b v) : ∀ x ∈ l, ∀ y ∈ l, textV x = textV y → x = y := fun x hx y hy e => text_one (h x hx) (h y hy) e
/-! ### moves of points behind one another -/
theorem lead_comp {a b c : Nat} {A B C : List Pt} (M : MvOk a b A B) (N : MvOk b c B C) {x : Pt} (hx : x ∈ A) : leadP B C (leadP A B x) = leadP A C x := by
  obtain ⟨k, hk⟩ := List.getElem?_of_mem hx
  have e1 := M.at_ hk
  have e2 := N.at_ e1
  have O : MvOk a c A C := ⟨M.o, N.n, M.l.trans N.l⟩
  have e3 := O.at_ hk
  rw [e2] at e3
  exact Option.some.inj e3
theorem lead_same {a : Nat} {A : List Pt} (h : PtsOk a A) {x : Pt} (hx : x ∈ A) : leadP A A x = x := by
  obtain ⟨k, hk⟩ := List.getElem?_of_mem hx
  have M : MvOk a a A A := ⟨h, h, rfl⟩
  have := M.at_ hk
  rw [hk] at this
  exact (Option.some.inj this).symm
/-- the ends of a move, and of the next one -/
structure NextOk (bo b c : Nat) (ps qs rs fs : List Pt) : Prop where
  p : PtsOk bo ps
  q : PtsOk b qs
  r : PtsOk c rs
  l1 : ps.length = qs.length
  l2 : qs.length = rs.length
  f : ∀ x ∈ fs, PtOk x ∧ Sz bo x
  nd : fs.Nodup
  no : ∀ x ∈ fs, x ∉ ps
  hc : fs.length < 1000
section
variable {bo b c : Nat} {ps qs rs fs : List Pt}
theorem NextOk.e (N : NextOk bo b c ps qs rs fs) : EndsOk bo b ps qs fs := ends_ok N.p N.q N.l1 N.f N.nd N.no N.hc
theorem NextOk.e2 (N : NextOk bo b c ps qs rs fs) : EndsOk bo c ps rs fs := ends_ok N.p N.r (N.l1.trans N.l2) N.f N.nd N.no N.hc
theorem NextOk.lead (N : NextOk bo b c ps qs rs fs) : ps.map (leadP (endsP ps qs fs).1 (endsP ps qs fs).2) = qs := by
  apply List.ext_getElem?
  intro k
  rw [List.getElem?_map]
  cases e : ps[k]? with
  | none => rw [List.getElem?_eq_none_iff] at e; rw [List.getElem?_eq_none (by rw [← N.l1]; exact e)]; rfl
  | some x =>
    rw [Option.map_some, ends_lead N.p N.q N.l1 N.f N.nd N.no N.hc e]
    have lt := (List.getElem?_eq_some_iff.mp e).1
    exact (atP_some (by rw [← N.l1]; exact lt)).symm
theorem NextOk.mem (N : NextOk bo b c ps qs rs fs) {x : Pt} (hx : x ∈ (endsP ps qs fs).1) : leadP (endsP ps qs fs).1 (endsP ps qs fs).2 x ∈ qs ↔ x ∈ ps := by
  have E := N.e
  have M := E.mv
  constructor
  · intro h
    have h' : leadP (endsP ps qs fs).1 (endsP ps qs fs).2 x ∈ ps.map (leadP (endsP ps qs fs).1 (endsP ps qs fs).2) := by rw [N.lead]; exact h
    obtain ⟨y, hy, e⟩ := List.mem_map.mp h'
    rw [← M.inj ((E.m1 y).mpr (.inl hy)) hx e]; exact hy
  · intro h
    have : leadP (endsP ps qs fs).1 (endsP ps qs fs).2 x ∈ ps.map (leadP (endsP ps qs fs).1 (endsP ps qs fs).2) := List.mem_map.mpr ⟨x, h, rfl⟩
    rw [N.lead] at this; exact this
theorem NextOk.less (N : NextOk bo b c ps qs rs fs) {x : Pt} (hx : x ∈ (endsP ps qs fs).1) : lessN qs (leadP (endsP ps qs fs).1 (endsP ps qs fs).2 x) = lessN ps x := by
  have E := N.e
  have := E.mv.less (l := ps) (fun y hy => (E.m1 y).mpr (.inl hy)) hx
  rw [N.lead] at this; exact this
theorem NextOk.gapN (N : NextOk bo b c ps qs rs fs) (g : Nat) : gapN qs (fs.map (leadP (endsP ps qs fs).1 (endsP ps qs fs).2)) g = gapN ps fs g := by
  have E := N.e
  unfold G.gapN
  rw [List.filter_map, List.length_map]
  congr 1
  apply List.filter_congr
  intro x hx
  show decide _ = decide _
  rw [N.less ((E.m1 x).mpr (.inr hx))]
theorem NextOk.ends (N : NextOk bo b c ps qs rs fs) : endsP qs rs (fs.map (leadP (endsP ps qs fs).1 (endsP ps qs fs).2)) = ((endsP ps qs fs).2, (endsP ps rs fs).2) := by
  have E := N.e
  have M := E.mv
  have led : ∀ x ∈ fs, x ∈ (endsP ps qs fs).1 := fun x hx => (E.m1 x).mpr (.inr hx)
  have all : ∀ y ∈ qs ++ fs.map (leadP (endsP ps qs fs).1 (endsP ps qs fs).2), PtOk y ∧ Sz (gB b) y := fun y hy => by
    rcases List.mem_append.mp hy with h | h
    · exact ⟨N.q.ok y h, (N.q.sz y h).mono (by unfold gB; omega)⟩
    · obtain ⟨x, hx, rfl⟩ := List.mem_map.mp h
      have := M.mem (led x hx)
      exact ⟨M.n.ok _ this, M.n.sz _ this⟩
  have first : ascP (qs ++ fs.map (leadP (endsP ps qs fs).1 (endsP ps qs fs).2)) = (endsP ps qs fs).2 := by
    refine asc_ext (asc_ok all).ok (asc_ok all).asc E.o2.asc fun y => ?_
    rw [asc_mem all, List.mem_append]
    constructor
    · rintro (h | h)
      · exact E.m2 y h
      · obtain ⟨x, hx, rfl⟩ := List.mem_map.mp h
        exact M.mem (led x hx)
    · intro h
      obtain ⟨x, hx, rfl⟩ := M.onto h
      rcases (E.m1 x).mp hx with z | z
      · exact .inl ((N.mem hx).mpr z)
      · exact .inr (List.mem_map.mpr ⟨x, z, rfl⟩)
  have second : gapsP qs rs (fs.map (leadP (endsP ps qs fs).1 (endsP ps qs fs).2)) (qs.length + 1) = gapsP ps rs fs (ps.length + 1) := by
    unfold gapsP
    rw [N.l1]
    congr 1
    funext g
    rw [N.gapN g]
  show (ascP _, ascP _) = _
  rw [first, second]; rfl
end
theorem rest_led {bo b c : Nat} {ps qs rs l : List Pt} (N : NextOk bo b c ps qs rs (restP ps l)) : restP qs (l.map (leadP (endsP ps qs (restP ps l)).1 (endsP ps qs (restP ps l)).2)) = (restP ps l).map (leadP (endsP ps qs (restP ps l)).1 (endsP ps qs (restP ps l)).2) := by
  have E := N.e
  generalize hF : leadP (endsP ps qs (restP ps l)).1 (endsP ps qs (restP ps l)).2 = F
  have key : ∀ x ∈ l, decide (F x ∉ qs) = decide (x ∉ ps) := fun x hx => by
    rw [decide_eq_decide, ← hF, N.mem ((E.m1 x).mpr (rest_in hx))]
  unfold restP
  rw [List.filter_map]
  congr 1
  apply List.filter_congr
  intro x hx
  exact key x hx
theorem next_of {n bo b c : Nat} {ps qs rs : List Pt} {m : Vl} (hp : PtsOk bo ps) (hq : PtsOk b qs) (hr : PtsOk c rs) (l1 : ps.length = qs.length) (l2 : qs.length = rs.length) (hm : VOk n bo m) (hw : vw m < 1000) : NextOk bo b c ps qs rs (restP ps (supV m)) := by
  have so := sup_ok hm
  refine ⟨hp, hq, hr, l1, l2, fun x hx => ?_, so.asc.nodup.sublist List.filter_sublist, fun x hx => of_decide_eq_true (List.mem_filter.mp hx).2, Nat.lt_of_le_of_lt (Nat.le_trans (List.length_filter_le _ _) (sup_len hm)) hw⟩
  have := (List.mem_filter.mp hx).1
  exact ⟨so.ok x this, so.sz x this⟩
/-! ### values moved behind one another -/
theorem moved_comp {n bo : Nat} {v : Vl} (h : VOk n bo v) : ∀ {a b c : Nat} {A B C : List Pt}, MvOk a b A B → MvOk b c B C → (∀ x ∈ supV v, x ∈ A) → vw v < 1000 → movedV (movedV v A B) B C = movedV v A C := by
  induction h with
  | word h o => intros; rfl
  | pt h s =>
    intro a b c A B C M N hs _
    simp only [movedV]
    rw [lead_comp M N (hs _ (by simp [supV]))]
  | @row n bo vs h0 h ih =>
    intro a b c A B C M N hs hw
    rw [supV] at hs
    rw [vw] at hw
    simp only [movedV, movedVs_map, List.map_map]
    congr 1
    apply List.map_congr_left
    intro v hv
    exact ih v hv M N (fun x hx => hs x ((asc_mem (sups_ok h) x).mpr (supVs_mem.mpr ⟨v, hv, hx⟩))) (by have := vw_mem hv; omega)
  | @set n bo ps ms hp h ih =>
    intro a b c A B C M N hs hw
    rw [supV] at hs
    rw [vw] at hw
    have hq := lead_ok M.o M.n M.l hp.asc hs
    have hB : ∀ y ∈ ps.map (leadP A B), y ∈ B := fun y hy => by obtain ⟨x, hx, rfl⟩ := List.mem_map.mp hy; exact M.mem (hs x hx)
    have hr := lead_ok N.o N.n N.l hq.asc hB
    have er : (ps.map (leadP A B)).map (leadP B C) = ps.map (leadP A C) := by
      rw [List.map_map]
      exact List.map_congr_left fun x hx => lead_comp M N (hs x hx)
    rw [er] at hr
    simp only [movedV, movedMs_map]
    rw [er]
    generalize hqs : ps.map (leadP A B) = qs at *
    generalize hrs : ps.map (leadP A C) = rs at *
    have l1 : ps.length = qs.length := by rw [← hqs, List.length_map]
    have l2 : qs.length = rs.length := by rw [← l1, ← hrs, List.length_map]
    have each : ∀ m ∈ ms, movedV (movedV m (endsP ps qs (restP ps (supV m))).1 (endsP ps qs (restP ps (supV m))).2) (endsP qs rs (restP qs (supV (movedV m (endsP ps qs (restP ps (supV m))).1 (endsP ps qs (restP ps (supV m))).2)))).1 (endsP qs rs (restP qs (supV (movedV m (endsP ps qs (restP ps (supV m))).1 (endsP ps qs (restP ps (supV m))).2)))).2 =
        movedV m (endsP ps rs (restP ps (supV m))).1 (endsP ps rs (restP ps (supV m))).2 ∧ VOk n (gB c) (movedV m (endsP ps rs (restP ps (supV m))).1 (endsP ps rs (restP ps (supV m))).2) := fun m hm => by
      have wm := vw_mem hm
      have X := next_of (hp.mono (show bo ≤ gB bo by unfold gB; omega)) hq hr l1 l2 (h m hm) (by omega)
      have E := X.e
      have sub : ∀ x ∈ supV m, x ∈ (endsP ps qs (restP ps (supV m))).1 := fun x hx => (E.m1 x).mpr (rest_in hx)
      have E2 := X.e2
      constructor
      · rw [sup_moved (h m hm) E.mv sub (by omega), rest_led X, X.ends]
        have : (endsP ps rs (restP ps (supV m))).1 = (endsP ps qs (restP ps (supV m))).1 := rfl
        rw [this]
        exact ih m hm E.mv ⟨E.o2, E2.o2, by rw [← E.len, ← E2.len, this]⟩ sub (by omega)
      · exact (moved_ok (h m hm) E2.o1 E2.o2 E2.len (fun x hx => (E2.m1 x).mpr (rest_in hx)) (by omega)).1
    congr 1
    refine (sortV_eq ((sortV_perm _).map _) fun x hx y hy e => ?_).trans ?_
    · have ok : ∀ z ∈ (sortV (ms.map fun m => movedV m (endsP ps qs (restP ps (supV m))).1 (endsP ps qs (restP ps (supV m))).2)).map fun m => movedV m (endsP qs rs (restP qs (supV m))).1 (endsP qs rs (restP qs (supV m))).2, VOk n (gB c) z := fun z hz => by
        obtain ⟨u, hu, rfl⟩ := List.mem_map.mp hz
        obtain ⟨m, hm, rfl⟩ := List.mem_map.mp ((sortV_perm _).mem_iff.mp hu)
        rw [(each m hm).1]; exact (each m hm).2
      exact oks_one ok x hx y hy e
    · congr 1
      rw [List.map_map]
      exact List.map_congr_left fun m hm => (each m hm).1
/-- a value is led as its points are -/
theorem moved_congr {n bo : Nat} {v : Vl} (h : VOk n bo v) : ∀ {A B A' B' : List Pt}, (∀ x ∈ supV v, leadP A B x = leadP A' B' x) → movedV v A B = movedV v A' B' := by
  induction h with
  | word h o => intros; rfl
  | pt h s => intro A B A' B' e; simp only [movedV]; rw [e _ (by simp [supV])]
  | @row n bo vs h0 h ih =>
    intro A B A' B' e
    rw [supV] at e
    simp only [movedV, movedVs_map]
    congr 1
    exact List.map_congr_left fun v hv => ih v hv fun x hx => e x ((asc_mem (sups_ok h) x).mpr (supVs_mem.mpr ⟨v, hv, hx⟩))
  | @set n bo ps ms hp h ih =>
    intro A B A' B' e
    rw [supV] at e
    have : ps.map (leadP A B) = ps.map (leadP A' B') := List.map_congr_left e
    simp only [movedV]
    rw [this]
/-! ### the one form -/
inductive Nf : Vl → Prop
  | word {s : Str} : Nf (.word s)
  | pt {x : Pt} : Nf (.pt x)
  | row {vs : List Vl} : (∀ v ∈ vs, Nf v) → Nf (.row vs)
  | set {ps : List Pt} {ms : List Vl} : (∀ m ∈ ms, Nf m) → (∀ m ∈ ms, placedV m ps = m) → ms.Pairwise leT → Nf (.set ps ms)
theorem moved_same {n bo : Nat} {v : Vl} (h : VOk n bo v) : ∀ {a : Nat} {A : List Pt}, Nf v → PtsOk a A → (∀ x ∈ supV v, x ∈ A) → movedV v A A = v := by
  induction h with
  | word h o => intros; rfl
  | pt h s => intro a A _ hA hs; simp only [movedV]; rw [lead_same hA (hs _ (by simp [supV]))]
  | @row n bo vs h0 h ih =>
    intro a A nf hA hs
    rw [supV] at hs
    cases nf with
    | row nf =>
      simp only [movedV, movedVs_map]
      congr 1
      conv => rhs; rw [← List.map_id vs]
      exact List.map_congr_left fun v hv => ih v hv (nf v hv) hA fun x hx => hs x ((asc_mem (sups_ok h) x).mpr (supVs_mem.mpr ⟨v, hv, hx⟩))
  | @set n bo ps ms hp h ih =>
    intro a A nf hA hs
    rw [supV] at hs
    cases nf with
    | set nf pl asc =>
      have e : ps.map (leadP A A) = ps := by
        conv => rhs; rw [← List.map_id ps]
        exact List.map_congr_left fun x hx => lead_same hA (hs x hx)
      simp only [movedV]
      rw [e, movedMs_map]
      have e2 : (ms.map fun m => movedV m (endsP ps ps (restP ps (supV m))).1 (endsP ps ps (restP ps (supV m))).2) = ms := by
        conv => rhs; rw [← List.map_id ms]
        exact List.map_congr_left fun m hm => pl m hm
      rw [e2, sortV_self asc (oks_one h)]
theorem moved_nf {n bo : Nat} {v : Vl} (h : VOk n bo v) : ∀ {a b : Nat} {A B : List Pt}, MvOk a b A B → (∀ x ∈ supV v, x ∈ A) → vw v < 1000 → (∀ ps ms, v ≠ .set ps ms → True) → (Nf v ∨ True) → Nf (movedV v A B) := by
  induction h with
  | word h o => intros; exact .word
  | pt h s => intros; exact .pt
  | @row n bo vs h0 h ih =>
    intro a b A B M hs hw t1 t2
    rw [supV] at hs
    rw [vw] at hw
    simp only [movedV, movedVs_map]
    refine .row fun u hu => ?_
    obtain ⟨v, hv, rfl⟩ := List.mem_map.mp hu
    exact ih v hv M (fun x hx => hs x ((asc_mem (sups_ok h) x).mpr (supVs_mem.mpr ⟨v, hv, hx⟩))) (by have := vw_mem hv; omega) (fun _ _ _ => trivial) (.inr trivial)
  | @set n bo ps ms hp h ih =>
    intro a b A B M hs hw t1 t2
    rw [supV] at hs
    rw [vw] at hw
    have hq := lead_ok M.o M.n M.l hp.asc hs
    simp only [movedV, movedMs_map]
    generalize hqs : ps.map (leadP A B) = qs at *
    have l1 : ps.length = qs.length := by rw [← hqs, List.length_map]
    have both : ∀ u ∈ sortV (ms.map fun m => movedV m (endsP ps qs (restP ps (supV m))).1 (endsP ps qs (restP ps (supV m))).2), Nf u ∧ placedV u qs = u := ?_
    · exact .set (fun u hu => (both u hu).1) (fun u hu => (both u hu).2) (sortV_asc _)
    intro u hu
    obtain ⟨m, hm, rfl⟩ := List.mem_map.mp ((sortV_perm _).mem_iff.mp hu)
    have wm := vw_mem hm
    have X := next_of (hp.mono (show bo ≤ gB bo by unfold gB; omega)) hq hq l1 rfl (h m hm) (by omega)
    have E := X.e
    have sub : ∀ x ∈ supV m, x ∈ (endsP ps qs (restP ps (supV m))).1 := fun x hx => (E.m1 x).mpr (rest_in hx)
    refine ⟨ih m hm E.mv sub (by omega) (fun _ _ _ => trivial) (.inr trivial), ?_⟩
    unfold placedV
    rw [sup_moved (h m hm) E.mv sub (by omega), rest_led X, X.ends]
    exact moved_comp (h m hm) E.mv ⟨E.o2, E.o2, rfl⟩ sub (by omega)
theorem nf_moved {n bo a b : Nat} {v : Vl} {A B : List Pt} (h : VOk n bo v) (M : MvOk a b A B) (hs : ∀ x ∈ supV v, x ∈ A) (hw : vw v < 1000) : Nf (movedV v A B) := moved_nf h M hs hw (fun _ _ _ => trivial) (.inr trivial)
theorem nf_placed {n b bo : Nat} {v : Vl} {points : List Pt} (h : VOk n bo v) (hp : PtsOk b points) (hw : vw v < 1000) : Nf (placedV v points) := by
  obtain ⟨e, _⟩ := rest_ok h hp hw
  unfold placedV
  exact nf_moved h e.mv (fun x hx => (e.m1 x).mpr (rest_in hx)) hw
theorem placed_twice {n b bo : Nat} {v : Vl} {points : List Pt} (h : VOk n bo v) (hp : PtsOk b points) (hw : vw v < 1000) : placedV (placedV v points) points = placedV v points := by
  have h' : VOk n (max b bo) v := h.mono (Nat.le_refl _) (Nat.le_max_right _ _)
  have X := next_of (hp.mono (Nat.le_max_left b bo)) hp hp rfl rfl h' hw
  have E := X.e
  have sub : ∀ x ∈ supV v, x ∈ (endsP points points (restP points (supV v))).1 := fun x hx => (E.m1 x).mpr (rest_in hx)
  show placedV (movedV v _ _) points = movedV v _ _
  unfold placedV
  rw [sup_moved h E.mv sub hw, rest_led X, X.ends]
  exact moved_comp h E.mv ⟨E.o2, E.o2, rfl⟩ sub hw
theorem nf_sorted {ps : List Pt} {fs : List Vl} (h : ∀ f ∈ fs, Nf f ∧ placedV f ps = f) : Nf (.set ps (sortV fs)) := .set (fun m hm => (h m ((sortV_perm _).mem_iff.mp hm)).1) (fun m hm => (h m ((sortV_perm _).mem_iff.mp hm)).2) (sortV_asc _)
/-- .. if no point of it is moved -/
theorem moved_stay {n bo a : Nat} {v : Vl} {A B : List Pt} (h : VOk n bo v) (nf : Nf v) (e : ∀ x ∈ supV v, leadP A B x = x) : movedV v A B = v := by
  have so := sup_ok h
  rw [moved_congr h (A' := supV v) (B' := supV v) fun x hx => by rw [e x hx, lead_same so hx]]
  exact moved_same h nf so fun x hx => hx
end G
set_option Elab.async false
set_option linter.all false
set_option maxRecDepth 100000
/-! where the points of a row go, code by code; plain mathematics -/
namespace G
open PySem L2
/-- where the points of l go, if olds go to news and the further ones spread -/
def goP (olds news l : List Pt) : Pt → Pt := leadP (endsP olds news (restP olds l)).1 (endsP olds news (restP olds l)).2
structure GoOk (bo b : Nat) (olds news l : List Pt) : Prop where
  o : PtsOk bo olds
  n : PtsOk b news
  len : olds.length = news.length
  p : PtsOk bo l
  c : l.length < 1000
section
variable {bo b : Nat} {olds news l : List Pt}
theorem GoOk.next (G : GoOk bo b olds news l) : NextOk bo b b olds news news (restP olds l) := by
  refine ⟨G.o, G.n, G.n, G.len, rfl, fun x hx => ?_, G.p.asc.nodup.sublist List.filter_sublist, fun x hx => of_decide_eq_true (List.mem_filter.mp hx).2, Nat.lt_of_le_of_lt (List.length_filter_le _ _) G.c⟩
  have := (List.mem_filter.mp hx).1
  exact ⟨G.p.ok x this, G.p.sz x this⟩
theorem GoOk.sub (G : GoOk bo b olds news l) {x : Pt} (hx : x ∈ l) : x ∈ (endsP olds news (restP olds l)).1 := (G.next.e.m1 x).mpr (rest_in hx)
theorem GoOk.go_ok (G : GoOk bo b olds news l) : PtsOk (gB b) (l.map (goP olds news l)) := by
  have E := G.next.e
  exact lead_ok E.o1 E.o2 E.len G.p.asc fun x hx => G.sub hx
theorem GoOk.at_ (G : GoOk bo b olds news l) {k : Nat} {x : Pt} (e : olds[k]? = some x) : goP olds news l x = atP news k := by
  have N := G.next
  exact ends_lead N.p N.q N.l1 N.f N.nd N.no N.hc e
theorem GoOk.gap (G : GoOk bo b olds news l) {g : Nat} (hg : g ≤ olds.length) : ((restP olds l).filter fun x => decide (lessN olds x = g)).map (goP olds news l) = spreadP news g (gapN olds (restP olds l) g) := by
  have N := G.next
  have E := N.e
  have M := E.mv
  have hc := N.hc
  obtain ⟨g1, g2⟩ := gaps_ok (ps := olds) (fs := restP olds l) (k := olds.length + 1) G.n (by have := G.len; omega) hc
  have cl := gapN_le olds (restP olds l) g
  have inE : ∀ x ∈ restP olds l, x ∈ (endsP olds news (restP olds l)).1 := fun x hx => (E.m1 x).mpr (.inr hx)
  have sub : ∀ x ∈ (restP olds l).filter (fun x => decide (lessN olds x = g)), x ∈ restP olds l ∧ lessN olds x = g := fun x hx => ⟨(List.mem_filter.mp hx).1, of_decide_eq_true (List.mem_filter.mp hx).2⟩
  have a1 := lead_ok E.o1 E.o2 E.len (ps := (restP olds l).filter fun x => decide (lessN olds x = g)) ((G.p.asc.sublist List.filter_sublist).sublist List.filter_sublist) fun x hx => inE x (sub x hx).1
  refine asc_ext a1.ok a1.asc (spread_asc G.n (by have := G.len; omega)) fun y => ?_
  have all2 : ∀ x ∈ news ++ gapsP olds news (restP olds l) (olds.length + 1), PtOk x ∧ Sz (gB b) x := fun x hx => by
    rcases List.mem_append.mp hx with z | z
    · exact ⟨G.n.ok x z, (G.n.sz x z).mono (by unfold gB; omega)⟩
    · exact ⟨(g2 x z).1, (g2 x z).2.1⟩
  have m2 : ∀ y, y ∈ (endsP olds news (restP olds l)).2 ↔ y ∈ news ∨ y ∈ gapsP olds news (restP olds l) (olds.length + 1) := fun y => (asc_mem all2 y).trans List.mem_append
  have inG : ∀ {y h}, h ≤ olds.length → y ∈ spreadP news h (gapN olds (restP olds l) h) → y ∈ gapsP olds news (restP olds l) (olds.length + 1) := fun {y h} hh hy => List.mem_flatMap.mpr ⟨h, List.mem_range.mpr (by omega), hy⟩
  constructor
  · intro hy
    obtain ⟨x, hx, rfl⟩ := List.mem_map.mp hy
    obtain ⟨x1, x2⟩ := sub x hx
    have me := M.mem (inE x x1)
    rcases (m2 _).mp me with z | z
    · exact absurd ((N.mem (inE x x1)).mp z) (N.no x x1)
    · obtain ⟨h, hh, hy⟩ := List.mem_flatMap.mp z
      have hh := List.mem_range.mp hh
      have ch := gapN_le olds (restP olds l) h
      obtain ⟨i, hi, e⟩ := spread_mem hy
      have q1 : lessN news (leadP (endsP olds news (restP olds l)).1 (endsP olds news (restP olds l)).2 x) = h := by
        rw [e]; exact less_spread G.n (by have := G.len; omega) (by omega) hi
      rw [N.less (inE x x1), x2] at q1
      subst q1
      exact hy
  · intro hy
    have yG := inG hg hy
    obtain ⟨x, hx, rfl⟩ := M.onto ((m2 y).mpr (.inr yG))
    obtain ⟨i, hi, e⟩ := spread_mem hy
    have q1 : lessN news (leadP (endsP olds news (restP olds l)).1 (endsP olds news (restP olds l)).2 x) = g := by
      rw [e]; exact less_spread G.n (by have := G.len; omega) (by omega) hi
    rw [N.less hx] at q1
    have no : x ∉ olds := fun z => (g2 _ yG).2.2 ((N.mem hx).mpr z)
    have xf : x ∈ restP olds l := by
      rcases (E.m1 x).mp hx with z | z
      · exact absurd z no
      · exact z
    exact List.mem_map.mpr ⟨x, List.mem_filter.mpr ⟨xf, decide_eq_true q1⟩, rfl⟩
end
/-! ### codes ascend -/
theorem less_mono {l : List Pt} {b : Nat} (hl : PtsOk b l) {x y : Pt} (hx : PtOk x) (hy : PtOk y) (h : ltP x y) : lessN l x ≤ lessN l y ∧ (x ∈ l → lessN l x < lessN l y) := by
  obtain ⟨a1, a2⟩ := less_gap hl hx
  obtain ⟨b1, b2⟩ := less_gap hl hy
  have le : lessN l x ≤ lessN l y := by
    by_cases z : lessN l x ≤ lessN l y
    · exact z
    · have lt : lessN l y < l.length := by have := less_le (l := l) (y := x); omega
      have e := atP_some lt
      exact absurd (lt_trans (hl.ok _ (List.mem_of_getElem? e)).pos hx.pos hy.pos (a1 _ _ (by omega) e) h) (b2 _ _ (Nat.le_refl _) e)
  refine ⟨le, fun m => ?_⟩
  obtain ⟨k, hk⟩ := List.getElem?_of_mem m
  have e1 := less_at hl.asc hk
  by_cases z : lessN l x < lessN l y
  · exact z
  · exact absurd h (b2 k x (by omega) hk)
theorem code_lt {l : List Pt} {b : Nat} (hl : PtsOk b l) {x y : Pt} (hx : PtOk x) (hy : PtOk y) (h : ltP x y) : codeP l x ≤ codeP l y := by
  obtain ⟨m1, m2⟩ := less_mono hl hx hy h
  have c1 : codeP l x ≤ 2 * lessN l x + 1 := by unfold codeP; split <;> omega
  have c2 : 2 * lessN l y ≤ codeP l y := by unfold codeP; split <;> omega
  by_cases e : codeP l x % 2 = 0
  · have := code_two' e; omega
  · have := m2 (code_odd' e); omega
where
  code_two' {x : Pt} (e : codeP l x % 2 = 0) : codeP l x = 2 * lessN l x := by
    unfold codeP at e ⊢
    split at e
    · omega
    · rename_i q; rw [if_neg q]
  code_odd' {x : Pt} (e : ¬ codeP l x % 2 = 0) : x ∈ l := by
    unfold codeP at e
    split at e
    · rename_i q; exact List.mem_of_getElem? q
    · omega
/-- the run of one code -/
theorem run_of {f : Pt → Nat} {l : List Pt} {i c : Nat} (mono : l.Pairwise fun x y => f x ≤ f y) (hlt : ∀ x ∈ l.take i, f x < c) (hi : ∀ x, l[i]? = some x → f x = c) :
    (l.drop i).take (l.filter fun x => decide (f x = c)).length = (l.filter fun x => decide (f x = c)) ∧
    (∀ x ∈ l.drop (i + (l.filter fun x => decide (f x = c)).length), c < f x) ∧ (i < l.length → 0 < (l.filter fun x => decide (f x = c)).length) := by
  have e : l = l.take i ++ l.drop i := (List.take_append_drop i l).symm
  have f0 : (l.take i).filter (fun x => decide (f x = c)) = [] := List.filter_eq_nil_iff.mpr fun x hx => by have := hlt x hx; simp; omega
  have fe : l.filter (fun x => decide (f x = c)) = (l.drop i).filter (fun x => decide (f x = c)) := by
    conv => lhs; rw [e]
    rw [List.filter_append, f0, List.nil_append]
  have dm : (l.drop i).Pairwise fun x y => f x ≤ f y := mono.sublist (List.drop_sublist _ _)
  have ge : ∀ x ∈ l.drop i, c ≤ f x := by
    by_cases z : i < l.length
    · have e1 : l[i]? = some l[i] := List.getElem?_eq_getElem z
      have e2 : l.drop i = l[i] :: l.drop (i + 1) := List.drop_eq_getElem_cons z
      intro x hx
      rw [e2] at hx dm
      rcases List.mem_cons.mp hx with q | q
      · rw [q, hi _ e1]; exact Nat.le_refl _
      · have := (List.pairwise_cons.mp dm).1 x q
        rw [hi _ e1] at this; exact this
    · intro x hx; rw [List.drop_of_length_le (by omega)] at hx; simp at hx
  have q := filter_take (p := fun x => decide (f x = c)) (l := l.drop i) (List.Pairwise.imp_of_mem (fun {x y} hx hy h hy2 => by
    have h1 := ge x hx
    have h2 := of_decide_eq_true hy2
    exact decide_eq_true (by omega)) dm)
  rw [fe]
  refine ⟨q.1.symm, fun x hx => ?_, fun z => ?_⟩
  · rw [← List.drop_drop] at hx
    have h1 := of_decide_eq_false (q.2 x hx)
    have h2 := ge x (List.mem_of_mem_drop hx)
    omega
  · have e1 : l[i]? = some l[i] := List.getElem?_eq_getElem z
    have m : l[i] ∈ l.drop i := by rw [List.drop_eq_getElem_cons z]; exact List.mem_cons_self ..
    exact List.length_pos_of_mem (List.mem_filter.mpr ⟨m, decide_eq_true (hi _ e1)⟩)
end G
set_option Elab.async false
set_option linter.all false
set_option maxRecDepth 100000
set_option maxHeartbeats 4000000
set_option exponentiation.threshold 10000
namespace G
-- RDX tBMF
open PySem L2 LamX NdefX
section
variable {P : Program} {w : World} {K : PySem.W.Frag} {mg : Str → Option Value} {base : Heap}
def sp_places_of (K : PySem.W.Frag) : Sp := fun vs H Q _ => ∃ (a c : Addr) (cw : List V) (olds news l : List Pt) (bo : Nat), vs = [.ref a, .ref c] ∧ FzT H a ((codesP l olds).map natV) ∧ SqT K H c cw ∧ DpAll K H cw (news.map ptD) ∧ GoOk bo 1000 olds news l ∧ olds.length < 1000 ∧
  ∀ (D : Addr) (H' : Hp) (us : List V), H D = none → Kp M0 H H' → H' D = some (.lst us) → DpAll K H' us ((l.map (goP olds news l)).map ptD) → Q (.ref D) H'
def PlI (K : PySem.W.Frag) (a c : Addr) (olds news l : List Pt) (H : Hp) (σ : L2.St) (H' : Hp) : Prop := ∃ (p : Addr) (us : List V) (i : Nat) (v4 v5 : Option V), σ = [some (.ref a), some (.ref c), some (.ref p), some (.int i), v4, v5] ∧ Kp M0 H H' ∧ H p = none ∧ H' p = some (.lst us) ∧ DpAll K H' us (((l.take i).map (goP olds news l)).map ptD) ∧ i ≤ l.length ∧
  ∀ x, l[i]? = some x → ∀ y ∈ l.take i, codeP olds y < codeP olds x
theorem ok_places_of (W : Ds K mg) : FnOk P w K mg base CX0 5 W.f_places_of W.fd_places_of P_places_of (sp_places_of K) := by
  refine W.D_places_of.F.ok sc_places_of (fun vs H Q E h => ?len) (fun cdv A outer s H vs Q E hr h => ?body)
  case len =>
    obtain ⟨a, c, cw, olds, news, l, bo, rfl, _⟩ := h
    rfl
  case body =>
    obtain ⟨a, c, cw, olds, news, l, bo, rfl, fa, sc, dc, go, lo, k⟩ := h
    have sa := fa.sq (K := K)
    have nd := sc_places_of.nd
    have hu := hu_of hr
    have hu64 := hr.units
    have hu65 := hu65_of hr
    refine ⟨_, (pss_cons (ps_set (i := 2) nd rfl (by first | exact Or.inl rfl | exact Or.inr rfl) (pe_lst pa_nil))
  (pss_cons (ps_set (i := 3) nd rfl (by first | exact Or.inl rfl | exact Or.inr rfl) pe_int)
  (pss_cons (ps_while PassesOwn.never (pt_cmpR op_lt (pv 3) (pe_callB (c_len K) (by rfl) W.T.b_len (by decide +kernel) (pa_cons (pv 0) pa_nil)) (nomark _))
     (pss_cons (ps_set (i := 4) nd rfl (by first | exact Or.inl rfl | exact Or.inr rfl) (pe_ix (k_ixT K) (pv 0) (pv 3) (fun _ _ => rfl)))
      (pss_one (ps_if (p_truth K (pe_op op_mod (pv 4) pe_int) (by intro _; rfl))
         (pss_cons (ps_expr (e_bm K (pe_bm PySem.F.plainAttrs_list PySem.F.slot_list_append PySem.F.type_list_append mt_append (pv 2) (pa_cons (pe_ix (k_ixT K) (pv 1) (pe_op op_fdivW (pv 4) pe_int) (fun _ _ => rfl)) pa_nil))))
          (pss_one (ps_aug (i := 3) nd rfl (by first | exact Or.inl rfl | exact Or.inr rfl) pe_int ip_add)))
         (pss_cons (ps_set (i := 5) nd rfl (by first | exact Or.inl rfl | exact Or.inr rfl) (e_bmF PySem.F.plainAttrs_tuple PySem.F.slot_tuple_count PySem.F.type_tuple_count (k_tcount K hu65) (pv 0) (pa_cons (pv 4) pa_nil)))
          (pss_cons (ps_expr (e_bm K (pe_bm PySem.F.plainAttrs_list PySem.F.slot_list_extend PySem.F.type_list_extend mt_extend (pv 2) (pa_cons (pe_call (ok_spread W) (hr.mono (by first | decide | omega)) rfl W.D_spread.g W.D_spread.F.kp W.D_spread.b .nil pass0 (pa_cons (pv 1) (pa_cons (pe_op op_fdivW (pv 4) pe_int) (pa_cons (pv 5) pa_nil)))) pa_nil))))
          (pss_one (ps_aug (i := 3) nd rfl (by first | exact Or.inl rfl | exact Or.inr rfl) (pv 5) ip_add))))))))
  (pss_one (ps_ret (pv 2)))))), ?_⟩
    simp only [tSeq, tIfS, tNext, tRet, tRetN, tAsg, tDrop, tPar, tCons, tNil, tCB, tVar, tC, tOp, rI, rI0, rU, tTest, tB, tTup, tLst, gName, tIf, tAnd, tOr, tNot, tAndV, tOrV, tNotV, tUn, tCall, tChain, tSl, tNoPart, tPart, tBM, tBM0, tDGet, sDPut, tAugS, ipI, tAug, rIxT, rIxL, rMulK, rLenK, rLstK, tTruK, gTup, gCons, gNil, rEq, rNe, scal, tNever, rMulK, rGcd, L2.start, List.map, List.length, List.replicate, List.cons_append, List.nil_append, List.append_nil, List.set, List.set_cons_zero, List.set_cons_succ, List.getElem?_cons_succ, List.getElem?_cons_zero, Option.some.injEq, List.cons.injEq, V.int.injEq, V.str.injEq, V.bl.injEq, V.ref.injEq, and_true, true_and, exists_eq_left, exists_eq_left', exists_eq_right, exists_eq_right', exists_eq, exists_and_left, exists_and_right, and_assoc, exists_false, false_and, and_false, or_false, false_or, reduceCtorEq, Nat.reduceAdd, Nat.reduceSub, List.append_assoc, eq_self, if_true, if_false, Bool.false_eq_true, decide_eq_true_eq, List.length_cons, List.length_nil, tBMF]
    refine ⟨by decide, fun p hp => ?_⟩
    refine while_at (PlI K a c olds news l H) (fun σ _ => match σ with | [_, _, _, some (.int i), _, _] => (l.length - i).toNat | _ => 0) ⟨p, [], 0, none, none, rfl, Kp.new hp, hp, upd_same, .nil, Nat.zero_le _, fun x e y hy => by simp at hy⟩ ?_
    rintro σ H' ⟨p, us, i, v4, v5, rfl, k1, hpn, hp1, dus, il, bd⟩
    simp only [tSeq, tIfS, tNext, tRet, tRetN, tAsg, tDrop, tPar, tCons, tNil, tCB, tVar, tC, tOp, rI, rI0, rU, tTest, tB, tTup, tLst, gName, tIf, tAnd, tOr, tNot, tAndV, tOrV, tNotV, tUn, tCall, tChain, tSl, tNoPart, tPart, tBM, tBM0, tDGet, sDPut, tAugS, ipI, tAug, rIxT, rIxL, rMulK, rLenK, rLstK, tTruK, gTup, gCons, gNil, rEq, rNe, scal, tNever, rMulK, rGcd, L2.start, List.map, List.length, List.replicate, List.cons_append, List.nil_append, List.append_nil, List.set, List.set_cons_zero, List.set_cons_succ, List.getElem?_cons_succ, List.getElem?_cons_zero, Option.some.injEq, List.cons.injEq, V.int.injEq, V.str.injEq, V.bl.injEq, V.ref.injEq, and_true, true_and, exists_eq_left, exists_eq_left', exists_eq_right, exists_eq_right', exists_eq, exists_and_left, exists_and_right, and_assoc, exists_false, false_and, and_false, or_false, false_or, reduceCtorEq, Nat.reduceAdd, Nat.reduceSub, List.append_assoc, eq_self, if_true, if_false, Bool.false_eq_true, decide_eq_true_eq, List.length_cons, List.length_nil, tBMF]
    have cl : ((codesP l olds).map natV).length = l.length := by simp [codesP]
    have nl : news.length = olds.length := go.len.symm
    have cwl : cw.length = news.length := by rw [dps_len dc, List.length_map]
    have lc := go.c
    have ul : us.length = i := by rw [dps_len dus, List.length_map, List.length_map, List.length_take]; omega
    refine ⟨_, Or.inr (sqT_tk (Tk.of0 k1) sa), ?_⟩
    rw [cl]
    refine ite2 (fun c1 => ?_) (fun c1 => ?_)
    · have hi : i < l.length := by omega
      have ex : l[i]? = some l[i] := List.getElem?_eq_getElem hi
      generalize l[i] = x at ex
      have mx := List.mem_of_getElem? ex
      have ox := go.p.ok x mx
      have ec : ((codesP l olds).map natV)[i]? = some (.int (codeP olds x : Nat)) := by rw [codesP, List.getElem?_map, List.getElem?_map, ex]; rfl
      refine ⟨_, fun _ _ h => h, _, sqT_tk (Tk.of0 k1) sa, _, atI_nat ec, _, rfl, by decide, _, rfl, ?_⟩
      by_cases odd : codeP olds x % 2 = 0
      · have e0 : ((((codeP olds x : Nat) : Int) % 2) != 0) = false := by
          have : ((codeP olds x : Nat) : Int) % 2 = 0 := by omega
          rw [this]; rfl
        rw [e0, if_neg (by simp)]
        have e2 : codeP olds x = 2 * lessN olds x := code_two odd
        have e3 : ((codeP olds x : Nat) : Int) / 2 = ((lessN olds x : Nat) : Int) := by omega
        generalize lessN olds x = g at e2 e3
        rw [e2] at e3 ⊢
        have gle : g ≤ olds.length := by
          have := code_le (points := olds) (x := x)
          omega
        have mono : l.Pairwise fun y z => codeP olds y ≤ codeP olds z := List.Pairwise.imp_of_mem (fun {y z} hy hz h => code_lt go.o (go.p.ok y hy) (go.p.ok z hz) h) go.p.asc
        obtain ⟨r1, r2, r3⟩ := run_of (f := codeP olds) (i := i) (c := 2 * g) mono (fun y hy => by rw [← e2]; exact bd x ex y hy) (fun y hy => by rw [ex] at hy; cases hy; exact e2)
        have e4 : (l.filter fun y => decide (codeP olds y = 2 * g)) = (restP olds l).filter fun y => decide (lessN olds y = g) := by
          unfold restP
          rw [List.filter_filter]
          apply List.filter_congr
          intro y hy
          have q := code_gap go.o (go.p.ok y hy) g
          by_cases z : codeP olds y = 2 * g
          · have q' := q.mp z
            simp [z, q'.1, q'.2]
          · have q' := fun a b => z (q.mpr ⟨a, b⟩)
            simp only [z, decide_false]
            by_cases w : y ∈ olds
            · simp [w]
            · have := q' w
              simp [w]
              exact this
        have r3 := r3 hi
        have many : (l.filter fun y => decide (codeP olds y = 2 * g)).length = gapN olds (restP olds l) g := by rw [e4]; rfl
        have mle : (l.filter fun y => decide (codeP olds y = 2 * g)).length ≤ l.length := List.length_filter_le _ _
        have led := go.gap gle
        rw [← e4] at led
        generalize hM : (l.filter fun y => decide (codeP olds y = 2 * g)).length = M at *
        have ecount : ((codesP l olds).map fun n => ((n : Nat) : Int)).count ((2 * g : Nat) : Int) = M := by
          rw [← hM, List.count, List.countP_map, codesP, List.countP_map, List.countP_eq_length_filter]
          congr 1
          apply List.filter_congr
          intro y _
          show (((codeP olds y : Nat) : Int) == ((2 * g : Nat) : Int)) = decide (codeP olds y = 2 * g)
          rw [Bool.eq_iff_iff]
          simp only [beq_iff_eq, decide_eq_true_eq]
          omega
        refine ⟨⟨_, fa.kp (M := M0) k1⟩, a, (codesP l olds).map fun n => ((n : Nat) : Int), _, rfl, rfl, by rw [List.map_map]; exact sqT_tk (Tk.of0 k1) sa, ?_⟩
        rw [ecount]
        refine ⟨Or.inl ⟨rfl, _, sqL_mk hp1⟩, _, rfl, wide_div (b := 2) (by omega) (by decide) (by omega) (by omega), ?_⟩
        rw [e3]
        refine ⟨c, cw, news, g, M, rfl, sqT_tk (Tk.of0 k1) sc, pts_tk dc (Tk.of0 k1), go.n, by omega, by omega, by omega, fun D H2 us2 hD k2 hd2 da2 => ?_⟩
        have u2 : us2.length = M := by rw [dps_len da2, List.length_map]; simp [spreadP]
        have hp2 := k2 _ _ hp1 fun z => z
        refine ⟨p, D, us, us2, rfl, rfl, hp2, hd2, by rw [sizeLine_eq]; omega, _, rfl, ⟨p, us ++ us2, i + M, _, _, rfl, (k1.trans k2).at hpn, hpn, upd_same, ?_, ?_, fun y ey z hz => ?_⟩, ?_⟩
        · rw [List.take_add, List.map_append, List.map_append]
          have e5 : (l.drop i).take M = l.filter fun y => decide (codeP olds y = 2 * g) := r1
          rw [e5, led, ← many]
          exact dps_app (pts_tk dus ((Tk.of0 k2).trans (Tk.lst hp2))) (pts_tk da2 (Tk.lst hp2))
        · have := congrArg List.length r1
          rw [List.length_take, List.length_drop, hM] at this
          omega
        · have ym : y ∈ l.drop (i + M) := List.mem_of_getElem? (i := 0) (by rw [List.getElem?_drop]; exact ey)
          have big := r2 y ym
          rw [List.take_add] at hz
          rcases List.mem_append.mp hz with q | q
          · have := bd x ex z q
            omega
          · rw [show (l.drop i).take M = l.filter fun y => decide (codeP olds y = 2 * g) from r1] at q
            have := of_decide_eq_true (List.mem_filter.mp q).2
            omega
        · show ((l.length : Int) - ((i + M : Nat) : Int)).toNat < ((l.length : Int) - (i : Int)).toNat
          omega
      · have e0 : ((((codeP olds x : Nat) : Int) % 2) != 0) = true := by
          have : ((codeP olds x : Nat) : Int) % 2 = 1 := by omega
          rw [this]; rfl
        rw [e0, if_pos rfl]
        have inO : x ∈ olds := code_odd odd
        have e2 : codeP olds x = 2 * lessN olds x + 1 := by
          unfold codeP at odd ⊢
          split at odd
          · rename_i q; rw [if_pos q]
          · omega
        obtain ⟨j, ej⟩ := List.getElem?_of_mem inO
        have e3 := less_at go.o.asc ej
        have jl := (List.getElem?_eq_some_iff.mp ej).1
        obtain ⟨v, ev, dv⟩ := pts_item (pts_tk dc (Tk.of0 k1)) (i := j) (by omega)
        refine ⟨Or.inl ⟨rfl, _, sqL_mk hp1⟩, _, rfl, wide_div (b := 2) (by omega) (by decide) (by omega) (by omega), cw, sqT_tk (Tk.of0 k1) sc, v, ?_, p, us, v, rfl, rfl, hp1, by rw [sizeLine_eq]; omega, ?_⟩
        · rw [show ((codeP olds x : Nat) : Int) / 2 = ((j : Nat) : Int) by omega]
          exact atI_nat ev
        · refine ⟨⟨p, us ++ [v], i + 1, _, _, rfl, k1.at hpn, hpn, upd_same, ?_, by omega, fun y ey z hz => ?_⟩, ?_⟩
          · rw [take_snoc ex, List.map_append, List.map_append]
            have : goP olds news l x = atP news j := go.at_ ej
            refine dps_app (pts_tk dus (Tk.lst hp1)) (dps_one ?_)
            rw [this]
            exact dp_tk (Tk.lst hp1) _ _ (ptD_tup _) dv
          · have ly := go.p.ok y (List.mem_of_getElem? ey)
            have lt := asc_get go.p.asc (Nat.lt_succ_self i) ex ey
            have m2 := (less_mono go.o ox ly lt).2 inO
            have c2 : 2 * lessN olds y ≤ codeP olds y := by unfold codeP; split <;> omega
            rw [take_snoc ex] at hz
            rcases List.mem_append.mp hz with q | q
            · have := bd x ex z q
              omega
            · rw [List.mem_singleton.mp q]; omega
          · show ((l.length : Int) - ((i + 1 : Nat) : Int)).toNat < ((l.length : Int) - (i : Int)).toNat
            omega
    · have e : i = l.length := by omega
      subst e
      rw [List.take_length] at dus
      exact k p H' us hpn k1 hp1 dus
end
end G
set_option Elab.async false
set_option linter.all false
set_option maxRecDepth 100000
set_option maxHeartbeats 4000000
set_option exponentiation.threshold 10000
namespace G
open PySem L2 LamX NdefX
section
variable {P : Program} {w : World} {K : PySem.W.Frag} {mg : Str → Option Value} {base : Heap}
/-! ### value_text -/
/-- part if isinstance(part, str) else .. -/
theorem part_or {H : Hp} {v : V} {x : Vl} {n b : Nat} {Q : VK} {P : Prop} (dv : Dp K H v (vlD x)) (ok : VOk n b x) (qs : ∀ s, x = .word s → v = .str s → Q v H) (qn : P) : rIsi K [v, .ty "str"] H fun u H1 => ∃ c, u = .bl c ∧ if c = true then Q v H1 else P := by
  cases x with
  | word s =>
    obtain rfl := dv_word dv
    exact isi_str ⟨_, rfl, by rw [if_pos rfl]; exact qs s rfl rfl⟩
  | pt y => obtain ⟨a, rfl, ha⟩ := dv_pt dv; exact isi_no ha ⟨_, rfl, by rw [if_neg (by simp)]; exact qn⟩
  | row l => obtain ⟨a, _, rfl, ha, _⟩ := dv_row dv; exact isi_no ha ⟨_, rfl, by rw [if_neg (by simp)]; exact qn⟩
  | set ps ms => obtain ⟨a, _, _, _, _, rfl, ha, _⟩ := dv_set dv; exact isi_no ha ⟨_, rfl, by rw [if_neg (by simp)]; exact qn⟩
theorem st_value_text (W : Ds K mg) (n : Nat) (ih : FnOk P w K mg base CX0 (n + 1) W.f_value_text W.fd_value_text P_value_text (prevS (sp_text K) n)) : FnOk P w K mg base CX0 (n + 1 + 1) W.f_value_text W.fd_value_text P_value_text (sp_text K n) := by
  refine W.D_value_text.F.ok sc_value_text (fun vs H Q E h => ?len) (fun cdv A outer s H vs Q E hr h => ?body)
  case len =>
    obtain ⟨v, x, b, m, rfl, _⟩ := h
    rfl
  case body =>
    obtain ⟨v, x, b, r, rfl, dx, hr0, ox, hb, hw, k⟩ := h
    have nd := sc_value_text.nd
    have hu := hu_of hr
    have hu64 := hr.units
    have hu65 := hu65_of hr
    refine ⟨_, (pss_cons (ps_if (pt_val (pe_callB (c_isi K) (by rfl) W.T.b_isinstance (by decide +kernel) (pa_cons (pv 0) (pa_cons (pe_bltn (v := .ty "str") (u := .type "str") (by rfl) W.T.b_str (by decide +kernel) (by rfl)) pa_nil))))
     (pss_one (ps_ret (pv 0)))
     pss_nil)
  (pss_cons (ps_if (pt_cmpR (k_eqD K hu64) (pe_ix (k_ixT K) (pv 0) pe_int (fun _ _ => rfl)) pe_str (nomark _))
     (pss_one (ps_ret (pe_op op_add_str (pe_op op_add_str pe_str (e_bm K (pe_bm PySem.F.plainAttrs_str PySem.F.slot_str_join PySem.F.type_str_join mt_join pe_str (pa_cons (pe_lc (own := [("part", 1)]) rfl nd (i_tup K (pe_slice (k_slT K) (pv 0) (po_some pe_int) po_none)) (blkOk_by (N := N_value_text) (sc := defScope s_value_text) (by decide +kernel)) (fun _ _ _ _ _ => (pg_name (i := 1) nd rfl (by first | exact Or.inl rfl | exact Or.inr rfl))) (fun _ _ _ _ _ => pts_nil) (fun _ _ _ _ _ => (pe_ifExp (pt_val (pe_callB (c_isi K) (by rfl) W.T.b_isinstance (by decide +kernel) (pa_cons (pv 1) (pa_cons (pe_bltn (v := .ty "str") (u := .type "str") (by rfl) W.T.b_str (by decide +kernel) (by rfl)) pa_nil)))) (pv 1) (pe_call ih (hr.mono (by first | decide | omega)) rfl W.D_value_text.g W.D_value_text.F.kp W.D_value_text.b .nil pass0 (pa_cons (pv 1) pa_nil))))) pa_nil)))) pe_str)))
     pss_nil)
  (pss_cons (ps_if (pt_cmpR (k_eqD K hu64) (pe_ix (k_ixT K) (pv 0) pe_int (fun _ _ => rfl)) pe_str (nomark _))
     (pss_cons (ps_set (i := 3) nd rfl (by first | exact Or.inl rfl | exact Or.inr rfl) (e_bm K (pe_bm PySem.F.plainAttrs_str PySem.F.slot_str_join PySem.F.type_str_join mt_join pe_str (pa_cons (pe_lc (own := [("point", 2)]) rfl nd (i_tup K (pe_ix (k_ixT K) (pv 0) pe_int (fun _ _ => rfl))) (blkOk_by (N := N_value_text) (sc := defScope s_value_text) (by decide +kernel)) (fun _ _ _ _ _ => (pg_name (i := 2) nd rfl (by first | exact Or.inl rfl | exact Or.inr rfl))) (fun _ _ _ _ _ => pts_nil) (fun _ _ _ _ _ => (pe_call ih (hr.mono (by first | decide | omega)) rfl W.D_value_text.g W.D_value_text.F.kp W.D_value_text.b .nil pass0 (pa_cons (pv 2) pa_nil)))) pa_nil))))
      (pss_cons (ps_set (i := 5) nd rfl (by first | exact Or.inl rfl | exact Or.inr rfl) (e_bm K (pe_bm PySem.F.plainAttrs_str PySem.F.slot_str_join PySem.F.type_str_join mt_join pe_str (pa_cons (pe_lc (own := [("member", 4)]) rfl nd (i_tup K (pe_ix (k_ixT K) (pv 0) pe_int (fun _ _ => rfl))) (blkOk_by (N := N_value_text) (sc := defScope s_value_text) (by decide +kernel)) (fun _ _ _ _ _ => (pg_name (i := 4) nd rfl (by first | exact Or.inl rfl | exact Or.inr rfl))) (fun _ _ _ _ _ => pts_nil) (fun _ _ _ _ _ => (pe_call ih (hr.mono (by first | decide | omega)) rfl W.D_value_text.g W.D_value_text.F.kp W.D_value_text.b .nil pass0 (pa_cons (pv 4) pa_nil)))) pa_nil))))
      (pss_one (ps_ret (pe_op op_add_str (pe_op op_add_str (pe_op op_add_str (pe_op op_add_str pe_str (pv 3)) pe_str) (pv 5)) pe_str)))))
     pss_nil)
  (pss_cons (ps_asg (pv 0) (g_tup K (pg_tup (n := 2) rfl (pgs_cons (pg_name (i := 6) nd rfl (by first | exact Or.inl rfl | exact Or.inr rfl)) (pgs_cons (pg_name (i := 7) nd rfl (by first | exact Or.inl rfl | exact Or.inr rfl)) pgs_nil)))))
  (pss_one (ps_ret (pe_ifExp (pt_cmpR op_eq (pv 7) pe_int (nomark _)) (pe_callTy call_str_int (by rfl) W.T.b_str (by decide +kernel) (pa_cons (pv 6) pa_nil)) (pe_joined (.cons (pe_fmt (pv 6)) (.cons pe_str (.cons (pe_fmt (pv 7)) .nil))))))))))), ?_⟩
    simp only [tSeq, tIfS, tNext, tRet, tRetN, tAsg, tDrop, tPar, tCons, tNil, tCB, tVar, tC, tOp, rI, rI0, rU, tTest, tB, tTup, tLst, gName, tIf, tAnd, tOr, tNot, tAndV, tOrV, tNotV, tUn, tCall, tChain, tSl, tNoPart, tPart, tBM, tBM0, tDGet, sDPut, tAugS, ipI, tAug, rIxT, rIxL, rMulK, rLenK, rLstK, tTruK, gTup, gCons, gNil, rEq, rNe, scal, tNever, rMulK, rGcd, L2.start, List.map, List.length, List.replicate, List.cons_append, List.nil_append, List.append_nil, List.set, List.set_cons_zero, List.set_cons_succ, List.getElem?_cons_succ, List.getElem?_cons_zero, Option.some.injEq, List.cons.injEq, V.int.injEq, V.str.injEq, V.bl.injEq, V.ref.injEq, and_true, true_and, exists_eq_left, exists_eq_left', exists_eq_right, exists_eq_right', exists_eq, exists_and_left, exists_and_right, and_assoc, exists_false, false_and, and_false, or_false, false_or, reduceCtorEq, Nat.reduceAdd, Nat.reduceSub, List.append_assoc, eq_self, if_true, if_false, Bool.false_eq_true, decide_eq_true_eq, List.length_cons, List.length_nil]
    cases x with
    | word s =>
      obtain rfl := dv_word dx
      refine isi_str ⟨_, rfl, ?_⟩
      rw [if_pos rfl]
      exact k H (Kp.refl H)
    | pt x =>
      obtain ⟨a, rfl, ha⟩ := dv_pt dx
      refine isi_no ha ⟨_, rfl, ?_⟩
      rw [if_neg (by simp)]
      refine ⟨a, rfl, _, ha, _, atI_nat (j := 0) rfl, no_int row_ok ⟨_, rfl, ?_⟩⟩
      rw [if_neg (by simp)]
      refine ⟨a, rfl, _, ha, _, atI_nat (j := 0) rfl, no_int set_ok ⟨_, rfl, ?_⟩⟩
      rw [if_neg (by simp)]
      cases ox with
      | @pt _ b x okx sx =>
        have sz := sx.mono (Nat.le_trans (gN_ge r b) hb)
        have l1 := int_shown (b := 1900) (by omega) sz.1
        have l2 := int_shown (b := 1900) (by omega) sz.2
        have g1 := log2_bits (b := 1900) (by omega) sz.1
        have g2 := log2_bits (b := 1900) (by omega) sz.2
        have e : ("/" : Str).length = 1 := by decide +kernel
        have q := k H (Kp.refl H)
        rw [textV] at q
        unfold ptText at q
        rw [PyData.shown_int] at q l1
        rw [PyData.shown_int] at l2
        refine ⟨a, rfl, _, ha, rfl, _, _, rfl, _, _, rfl, rfl, rfl, ite2 (fun c => ?_) (fun c => ?_)⟩
        · have c' : x.2 = 1 := by injection c
          rw [if_pos c'] at q
          exact ⟨_, rfl, by omega, q⟩
        · have c' : ¬ x.2 = 1 := fun z => c (by rw [z])
          rw [if_neg c', PyData.shown_int] at q
          simp only [tJs, tFmt, tSeq, tIfS, tNext, tRet, tRetN, tAsg, tDrop, tPar, tCons, tNil, tCB, tVar, tC, tOp, rI, rI0, rU, tTest, tB, tTup, tLst, gName, tIf, tAnd, tOr, tNot, tAndV, tOrV, tNotV, tUn, tCall, tChain, tSl, tNoPart, tPart, tBM, tBM0, tDGet, sDPut, tAugS, ipI, tAug, rIxT, rIxL, rMulK, rLenK, rLstK, tTruK, gTup, gCons, gNil, rEq, rNe, scal, tNever, rMulK, rGcd, L2.start, List.map, List.length, List.replicate, List.cons_append, List.nil_append, List.append_nil, List.set, List.set_cons_zero, List.set_cons_succ, List.getElem?_cons_succ, List.getElem?_cons_zero, Option.some.injEq, List.cons.injEq, V.int.injEq, V.str.injEq, V.bl.injEq, V.ref.injEq, and_true, true_and, exists_eq_left, exists_eq_left', exists_eq_right, exists_eq_right', exists_eq, exists_and_left, exists_and_right, and_assoc, exists_false, false_and, and_false, or_false, false_or, reduceCtorEq, Nat.reduceAdd, Nat.reduceSub, List.append_assoc, eq_self, if_true, if_false, Bool.false_eq_true, decide_eq_true_eq, List.length_cons, List.length_nil]
          have ee : ∀ t : Str, (Str.empty ++ t) = t := fun t => tx_inj (by rw [tx_app]; rfl)
          rw [ee]
          exact ⟨by omega, by rw [sizeLine_eq]; omega, by rw [strLen_append, e, sizeLine_eq]; omega, by omega, by rw [strLen_append, strLen_append, e, sizeLine_eq]; omega, q⟩
    | set ps ms =>
      have tl := text_len ox hb hw
      obtain ⟨a, p, m, pw, mw, rfl, ha, hp, dp, hm, dm⟩ := dv_set dx
      refine isi_no ha ⟨_, rfl, ?_⟩
      rw [if_neg (by simp)]
      refine ⟨a, rfl, _, ha, _, atI_nat (j := 0) rfl, no_row ⟨_, rfl, ?_⟩⟩
      rw [if_neg (by simp)]
      refine ⟨a, rfl, _, ha, _, atI_nat (j := 0) rfl, is_set ⟨_, rfl, ?_⟩⟩
      rw [if_pos rfl]
      cases ox with
      | @set r b _ _ okp okm =>
       cases n with
       | zero => omega
       | succ n =>
        rw [textV, strLen_append, strLen_append, strLen_append, strLen_append] at tl
        rw [vw] at hw
        rw [vw] at tl
        refine ⟨rfl, tlcT ?_⟩
        simp only [tSeq, tIfS, tNext, tRet, tRetN, tAsg, tDrop, tPar, tCons, tNil, tCB, tVar, tC, tOp, rI, rI0, rU, tTest, tB, tTup, tLst, gName, tIf, tAnd, tOr, tNot, tAndV, tOrV, tNotV, tUn, tCall, tChain, tSl, tNoPart, tPart, tBM, tBM0, tDGet, sDPut, tAugS, ipI, tAug, rIxT, rIxL, rMulK, rLenK, rLstK, tTruK, gTup, gCons, gNil, rEq, rNe, scal, tNever, rMulK, rGcd, L2.start, List.map, List.length, List.replicate, List.cons_append, List.nil_append, List.append_nil, List.set, List.set_cons_zero, List.set_cons_succ, List.getElem?_cons_succ, List.getElem?_cons_zero, Option.some.injEq, List.cons.injEq, V.int.injEq, V.str.injEq, V.bl.injEq, V.ref.injEq, and_true, true_and, exists_eq_left, exists_eq_left', exists_eq_right, exists_eq_right', exists_eq, exists_and_left, exists_and_right, and_assoc, exists_false, false_and, and_false, or_false, false_or, reduceCtorEq, Nat.reduceAdd, Nat.reduceSub, List.append_assoc, eq_self, if_true, if_false, Bool.false_eq_true, decide_eq_true_eq, List.length_cons, List.length_nil]
        refine ⟨_, ha, _, atI_nat (j := 1) rfl, ?_⟩
        refine lcTe kr0 (ps.map ptD) ((ps.map ptText).map PyData.str) trivial (by simp; rw [sizeLine_eq]; omega) (by simp) hp dp (ptDs_tup _) (strs_tup _) (fun i d e x H1 e1 e2 dx' k1 _ Q' q => ?_) (fun D H1 vs hD k1 _ hd1 ha1 => ?_)
        · rw [List.getElem?_map] at e1
          cases e3 : ps[i]? with
          | none => rw [e3] at e1; cases e1
          | some y =>
            rw [e3] at e1; cases e1
            rw [List.getElem?_map, List.getElem?_map, e3] at e2; cases e2
            have my := List.mem_of_getElem? e3
            simp only [tSeq, tIfS, tNext, tRet, tRetN, tAsg, tDrop, tPar, tCons, tNil, tCB, tVar, tC, tOp, rI, rI0, rU, tTest, tB, tTup, tLst, gName, tIf, tAnd, tOr, tNot, tAndV, tOrV, tNotV, tUn, tCall, tChain, tSl, tNoPart, tPart, tBM, tBM0, tDGet, sDPut, tAugS, ipI, tAug, rIxT, rIxL, rMulK, rLenK, rLstK, tTruK, gTup, gCons, gNil, rEq, rNe, scal, tNever, rMulK, rGcd, L2.start, List.map, List.length, List.replicate, List.cons_append, List.nil_append, List.append_nil, List.set, List.set_cons_zero, List.set_cons_succ, List.getElem?_cons_succ, List.getElem?_cons_zero, Option.some.injEq, List.cons.injEq, V.int.injEq, V.str.injEq, V.bl.injEq, V.ref.injEq, and_true, true_and, exists_eq_left, exists_eq_left', exists_eq_right, exists_eq_right', exists_eq, exists_and_left, exists_and_right, and_assoc, exists_false, false_and, and_false, or_false, false_or, reduceCtorEq, Nat.reduceAdd, Nat.reduceSub, List.append_assoc, eq_self, if_true, if_false, Bool.false_eq_true, decide_eq_true_eq, List.length_cons, List.length_nil]
            exact ⟨x, .pt y, b, r, rfl, by rw [vlD]; exact dx', by omega, .pt (okp.ok y my) (okp.sz y my), Nat.le_trans (gN_succ r b) hb, by simp [vw], fun H4 k4 => q _ _ k4 trivial (by rw [textV]; exact .str _)⟩
        · have vse := strs_of ha1
          subst vse
          have j1 := join_len (ps.map ptText)
          have j3 := ptTexts_len (l := ps) fun x hx => (okp.sz x hx).mono (Nat.le_trans (gN_ge (r + 1) b) hb)
          rw [List.length_map] at j1
          have sp : (" " : Str).length = 1 := by decide +kernel
          have e3 : ("{" : Str).length = 1 := by decide +kernel
          have e4 : ("|" : Str).length = 1 := by decide +kernel
          have e5 : ("}" : Str).length = 1 := by decide +kernel
          rw [e3, e4, e5] at tl
          refine ⟨D, rfl, ps.map ptText, Or.inl (sqL_mk hd1), by rw [sp, List.length_map]; omega, rfl, tlcT ?_⟩
          simp only [tSeq, tIfS, tNext, tRet, tRetN, tAsg, tDrop, tPar, tCons, tNil, tCB, tVar, tC, tOp, rI, rI0, rU, tTest, tB, tTup, tLst, gName, tIf, tAnd, tOr, tNot, tAndV, tOrV, tNotV, tUn, tCall, tChain, tSl, tNoPart, tPart, tBM, tBM0, tDGet, sDPut, tAugS, ipI, tAug, rIxT, rIxL, rMulK, rLenK, rLstK, tTruK, gTup, gCons, gNil, rEq, rNe, scal, tNever, rMulK, rGcd, L2.start, List.map, List.length, List.replicate, List.cons_append, List.nil_append, List.append_nil, List.set, List.set_cons_zero, List.set_cons_succ, List.getElem?_cons_succ, List.getElem?_cons_zero, Option.some.injEq, List.cons.injEq, V.int.injEq, V.str.injEq, V.bl.injEq, V.ref.injEq, and_true, true_and, exists_eq_left, exists_eq_left', exists_eq_right, exists_eq_right', exists_eq, exists_and_left, exists_and_right, and_assoc, exists_false, false_and, and_false, or_false, false_or, reduceCtorEq, Nat.reduceAdd, Nat.reduceSub, List.append_assoc, eq_self, if_true, if_false, Bool.false_eq_true, decide_eq_true_eq, List.length_cons, List.length_nil]
          refine ⟨_, sqT_tk (Tk.of0 k1) ha, _, atI_nat (j := 2) rfl, ?_⟩
          refine lcTe kr0 (ms.map vlD) ((textVs ms).map PyData.str) trivial (by simp [textVs_map]; rw [sizeLine_eq]; have := vws_len ms; omega) (by simp [textVs_map]) (sqT_tk (Tk.of0 k1) hm) (dvs_tk dm (Tk.of0 k1)) (vls_tup _) (strs_tup _) (fun i d e x H2 e1 e2 dx' k2 _ Q' q => ?_) (fun D2 H2 vs hD2 k2 _ hd2 ha2 => ?_)
          · rw [List.getElem?_map] at e1
            cases e3 : ms[i]? with
            | none => rw [e3] at e1; cases e1
            | some y =>
              rw [e3] at e1; cases e1
              rw [List.getElem?_map, textVs_map, List.getElem?_map, e3] at e2; cases e2
              have my := List.mem_of_getElem? e3
              have wy := vw_mem my
              simp only [tSeq, tIfS, tNext, tRet, tRetN, tAsg, tDrop, tPar, tCons, tNil, tCB, tVar, tC, tOp, rI, rI0, rU, tTest, tB, tTup, tLst, gName, tIf, tAnd, tOr, tNot, tAndV, tOrV, tNotV, tUn, tCall, tChain, tSl, tNoPart, tPart, tBM, tBM0, tDGet, sDPut, tAugS, ipI, tAug, rIxT, rIxL, rMulK, rLenK, rLstK, tTruK, gTup, gCons, gNil, rEq, rNe, scal, tNever, rMulK, rGcd, L2.start, List.map, List.length, List.replicate, List.cons_append, List.nil_append, List.append_nil, List.set, List.set_cons_zero, List.set_cons_succ, List.getElem?_cons_succ, List.getElem?_cons_zero, Option.some.injEq, List.cons.injEq, V.int.injEq, V.str.injEq, V.bl.injEq, V.ref.injEq, and_true, true_and, exists_eq_left, exists_eq_left', exists_eq_right, exists_eq_right', exists_eq, exists_and_left, exists_and_right, and_assoc, exists_false, false_and, and_false, or_false, false_or, reduceCtorEq, Nat.reduceAdd, Nat.reduceSub, List.append_assoc, eq_self, if_true, if_false, Bool.false_eq_true, decide_eq_true_eq, List.length_cons, List.length_nil]
              exact ⟨x, y, gB b, r, rfl, dx', by omega, okm y my, hb, by omega, fun H4 k4 => q _ _ k4 trivial (.str _)⟩
          · have vse := strs_of ha2
            subst vse
            have j2 := join_len (textVs ms)
            have tlm : (textVs ms).length = ms.length := by rw [textVs_map, List.length_map]
            have q := k H2 (k1.trans k2)
            rw [textV] at q
            have all : ∀ l : List Vl, (∀ v ∈ l, (textV v).length ≤ 4000 * vw v) → ((textVs l).map (·.length)).sum ≤ 4000 * vws l := by
              intro l
              induction l with
              | nil => intro _; simp [textVs]
              | cons x l il => intro q; have := il (fun v hv => q v (by simp [hv])); have := q x (by simp); simp only [textVs, vws, List.map_cons, List.sum_cons]; omega
            have am := all ms fun v hv => text_len (okm v hv) hb (by have := vw_mem hv; omega)
            have vl := vws_len ms
            refine ⟨D2, rfl, textVs ms, Or.inl (sqL_mk hd2), by rw [sp, tlm]; omega, ?_⟩
            exact ⟨by rw [e3, sizeLine_eq]; omega, by rw [strLen_append, e3, e4, sizeLine_eq]; omega, by rw [strLen_append, strLen_append, e3, e4, sizeLine_eq]; omega, by rw [strLen_append, strLen_append, strLen_append, e3, e4, e5, sizeLine_eq]; omega, q⟩
    | row l =>
      have tl := text_len ox hb hw
      obtain ⟨a, ws, rfl, ha, da⟩ := dv_row dx
      refine isi_no ha ⟨_, rfl, ?_⟩
      rw [if_neg (by simp)]
      refine ⟨a, rfl, _, ha, _, atI_nat (j := 0) rfl, is_row ⟨_, rfl, ?_⟩⟩
      rw [if_pos rfl]
      cases ox with
      | @row r b _ h0 ol =>
       cases n with
       | zero => omega
       | succ n =>
        rw [textV, strLen_append, strLen_append] at tl
        rw [vw] at hw
        rw [vw] at tl
        refine ⟨rfl, tlcT ?_⟩
        simp only [tSeq, tIfS, tNext, tRet, tRetN, tAsg, tDrop, tPar, tCons, tNil, tCB, tVar, tC, tOp, rI, rI0, rU, tTest, tB, tTup, tLst, gName, tIf, tAnd, tOr, tNot, tAndV, tOrV, tNotV, tUn, tCall, tChain, tSl, tNoPart, tPart, tBM, tBM0, tDGet, sDPut, tAugS, ipI, tAug, rIxT, rIxL, rMulK, rLenK, rLstK, tTruK, gTup, gCons, gNil, rEq, rNe, scal, tNever, rMulK, rGcd, L2.start, List.map, List.length, List.replicate, List.cons_append, List.nil_append, List.append_nil, List.set, List.set_cons_zero, List.set_cons_succ, List.getElem?_cons_succ, List.getElem?_cons_zero, Option.some.injEq, List.cons.injEq, V.int.injEq, V.str.injEq, V.bl.injEq, V.ref.injEq, and_true, true_and, exists_eq_left, exists_eq_left', exists_eq_right, exists_eq_right', exists_eq, exists_and_left, exists_and_right, and_assoc, exists_false, false_and, and_false, or_false, false_or, reduceCtorEq, Nat.reduceAdd, Nat.reduceSub, List.append_assoc, eq_self, if_true, if_false, Bool.false_eq_true, decide_eq_true_eq, List.length_cons, List.length_nil]
        refine slRest ha fun t ht => ?_
        refine lcTe kr0 (l.map vlD) ((textVs l).map PyData.str) trivial (by simp [textVs_map]; rw [sizeLine_eq]; have := vws_len l; omega) (by simp [textVs_map]) (sqT_mk upd_same) (dvs_tk da (Tk.new ht)) (vls_tup _) (strs_tup _) (fun i d e x H2 e1 e2 dx' k2 _ Q' q => ?_) (fun D2 H2 vs hD2 k2 _ hd2 ha2 => ?_)
        · rw [List.getElem?_map] at e1
          cases e3 : l[i]? with
          | none => rw [e3] at e1; cases e1
          | some y =>
            rw [e3] at e1; cases e1
            rw [List.getElem?_map, textVs_map, List.getElem?_map, e3] at e2; cases e2
            have my := List.mem_of_getElem? e3
            have wy := vw_mem my
            simp only [tSeq, tIfS, tNext, tRet, tRetN, tAsg, tDrop, tPar, tCons, tNil, tCB, tVar, tC, tOp, rI, rI0, rU, tTest, tB, tTup, tLst, gName, tIf, tAnd, tOr, tNot, tAndV, tOrV, tNotV, tUn, tCall, tChain, tSl, tNoPart, tPart, tBM, tBM0, tDGet, sDPut, tAugS, ipI, tAug, rIxT, rIxL, rMulK, rLenK, rLstK, tTruK, gTup, gCons, gNil, rEq, rNe, scal, tNever, rMulK, rGcd, L2.start, List.map, List.length, List.replicate, List.cons_append, List.nil_append, List.append_nil, List.set, List.set_cons_zero, List.set_cons_succ, List.getElem?_cons_succ, List.getElem?_cons_zero, Option.some.injEq, List.cons.injEq, V.int.injEq, V.str.injEq, V.bl.injEq, V.ref.injEq, and_true, true_and, exists_eq_left, exists_eq_left', exists_eq_right, exists_eq_right', exists_eq, exists_and_left, exists_and_right, and_assoc, exists_false, false_and, and_false, or_false, false_or, reduceCtorEq, Nat.reduceAdd, Nat.reduceSub, List.append_assoc, eq_self, if_true, if_false, Bool.false_eq_true, decide_eq_true_eq, List.length_cons, List.length_nil]
            refine part_or dx' (ol y my) (fun s0 e0 e4 => q _ _ (Kp.refl _) trivial (by rw [e0, e4, textV]; exact .str _)) ?_
            exact ⟨x, y, b, r, rfl, dx', by omega, ol y my, Nat.le_trans (gN_succ r b) hb, by omega, fun H4 k4 => q _ _ k4 trivial (.str _)⟩
        · have vse := strs_of ha2
          subst vse
          have j2 := join_len (textVs l)
          have tlm : (textVs l).length = l.length := by rw [textVs_map, List.length_map]
          have q := k H2 ((Kp.new ht).trans k2)
          rw [textV] at q
          have sp : (" " : Str).length = 1 := by decide +kernel
          have e1 : ("<" : Str).length = 1 := by decide +kernel
          have e2 : (">" : Str).length = 1 := by decide +kernel
          rw [e1, e2] at tl
          have all : ∀ l : List Vl, (∀ v ∈ l, (textV v).length ≤ 4000 * vw v) → ((textVs l).map (·.length)).sum ≤ 4000 * vws l := by
            intro l
            induction l with
            | nil => intro _; simp [textVs]
            | cons x l il => intro q; have := il (fun v hv => q v (by simp [hv])); have := q x (by simp); simp only [textVs, vws, List.map_cons, List.sum_cons]; omega
          have am := all l fun v hv => text_len (ol v hv) (Nat.le_trans (gN_succ r b) hb) (by have := vw_mem hv; omega)
          have vl := vws_len l
          exact ⟨D2, rfl, textVs l, Or.inl (sqL_mk hd2), by rw [sp, tlm]; omega, by rw [e1, sizeLine_eq]; omega, by rw [strLen_append, e1, e2, sizeLine_eq]; omega, q⟩
theorem ok_value_text (W : Ds K mg) : ∀ n : Nat, FnOk P w K mg base CX0 (n + 2) W.f_value_text W.fd_value_text P_value_text (sp_text K n)
  | 0 => st_value_text W 0 fnOk_false
  | n + 1 => st_value_text W (n + 1) (ok_value_text W n)
end
end G
set_option Elab.async false
set_option linter.all false
set_option maxRecDepth 100000
set_option maxHeartbeats 4000000
set_option exponentiation.threshold 10000
namespace G
open PySem L2 LamX NdefX
section
variable {P : Program} {w : World} {K : PySem.W.Frag} {mg : Str → Option Value} {base : Heap}
def pairD (v : Vl) : PyData := .tuple [.str (textV v), vlD v]
/-- sorted objects are the data of the sorted values -/
theorem sorted_by {K : PySem.W.Frag} {H : Hp} {xs out : List V} {vs : List Vl} (f : Vl → PyData) (hx : DpAll K H xs (vs.map f)) (h : SortedBy xs (vs.map textV) out) : DpAll K H out ((sortV vs).map f) := by
  have hl : xs.length = vs.length := by rw [dps_len hx, List.length_map]
  let leZ : V × Vl → V × Vl → Bool := fun p q => PySem.W.dataLe false (fun v : Vl => PyData.str (textV v)) p.2 q.2
  have e1 : xs.zip (vs.map textV) = (xs.zip vs).map (fun p : V × Vl => (p.1, textV p.2)) := by
    rw [List.zip_map_right]; rfl
  have o1 : out = ((xs.zip vs).mergeSort leZ).map (·.1) := by
    rw [show out = _ from h, e1, ← List.map_mergeSort (r := leZ) (f := fun p : V × Vl => (p.1, textV p.2)) (s := PySem.W.dataLe false fun p : V × Str => PyData.str p.2) (fun a _ b _ => rfl), List.map_map]; rfl
  have o2 : sortV vs = ((xs.zip vs).mergeSort leZ).map (·.2) := by
    have e2 : vs.map (fun v => (v, textV v)) = (xs.zip vs).map (fun p : V × Vl => (p.2, textV p.2)) := by
      conv => lhs; rw [← List.map_snd_zip (l₁ := xs) (l₂ := vs) (by omega)]
      rw [List.map_map]; rfl
    unfold sortV sortZ
    rw [e2, ← List.map_mergeSort (r := leZ) (f := fun p : V × Vl => (p.2, textV p.2)) (s := PySem.W.dataLe false fun p : Vl × Str => PyData.str p.2) (fun a _ b _ => rfl), List.map_map]; rfl
  have all : ∀ p ∈ (xs.zip vs).mergeSort leZ, Dp K H p.1 (f p.2) := fun p hp => by
    have hp : p ∈ xs.zip vs := List.mem_mergeSort.mp hp
    obtain ⟨i, hi⟩ := List.getElem?_of_mem hp
    obtain ⟨a1, a2⟩ := List.getElem?_zip_eq_some.mp hi
    obtain ⟨d, d1, d2⟩ := dps_get hx a1
    rw [List.getElem?_map, a2] at d1
    cases d1
    exact d2
  rw [o1, o2]
  generalize (xs.zip vs).mergeSort leZ = Z at all
  induction Z with
  | nil => exact .nil
  | cons p Z ih => exact .cons (all p (by simp)) (ih fun q hq => all q (by simp [hq]))
theorem pairs_split {K : PySem.W.Frag} {H : Hp} : ∀ {out : List V} {l : List Vl}, DpAll K H out (l.map pairD) → ∃ xs, xs.length = out.length ∧ DpAll K H xs (l.map vlD) ∧ ∀ (i : Nat) (o x : V), out[i]? = some o → xs[i]? = some x → ∃ (a : Addr) (u : V), o = .ref a ∧ H a = some (.tup [u, x])
  | [], [], _ => ⟨[], rfl, .nil, fun i o x e => by simp at e⟩
  | o :: out, m :: l, .cons h t => by
    obtain ⟨xs, e1, e2, e3⟩ := pairs_split t
    cases h with
    | tup ha hp =>
      cases hp with
      | cons h1 t1 =>
        cases t1 with
        | cons h2 t2 =>
          cases t2
          refine ⟨_ :: xs, by simp [e1], .cons h2 e2, fun i o' x eo ex => ?_⟩
          cases i with
          | zero => simp at eo ex; subst eo ex; exact ⟨_, _, rfl, ha⟩
          | succ i => exact e3 i o' x (by simpa using eo) (by simpa using ex)
theorem pairs_tup (l : List Vl) : tupDs (l.map pairD) = true := tupDs_all.mpr fun d h => by
  obtain ⟨m, _, rfl⟩ := List.mem_map.mp h
  simp [pairD, tupD, tupDs, vlD_tup]
def sp_by_texts (K : PySem.W.Frag) (T : List (Addr × Str)) (n : Nat) : Sp := fun vs H Q _ => ∃ (a : Addr) (ws : List V) (ms : List Vl) (b : Nat), vs = [.ref a] ∧ H a = some (.lst ws) ∧ DpAll K H ws (ms.map vlD) ∧ (∀ m ∈ ms, VOk n b m) ∧ gN n b ≤ 1900 ∧ vws ms < 1000 ∧ Tabs T H ∧
  ∀ (D : Addr) (H' : Hp) (us : List V), Kt M0 H H' → Tabs T H' → H' D = some (.lst us) → DpAll K H' us ((sortV ms).map vlD) → Q (.ref D) H'
theorem ok_by_texts (W : Ds K mg) (B : Tbs W base) (n : Nat) : FnG P w K mg base (n + 4) W.f_by_texts W.fd_by_texts P_by_texts (sp_by_texts K B.T n) := by
  refine fnG_okC W.D_by_texts.F B.by_texts.code sc_by_texts (fun vs H Q E h => ?len) (fun A outer s H vs Q E nr hr h => ?body)
  case len =>
    obtain ⟨a, ws, ms, b, rfl, _⟩ := h
    rfl
  case body =>
    obtain ⟨a, ws, ms, b, rfl, ha, dm, om, hb, hw, tb, k⟩ := h
    have nd := sc_by_texts.nd
    have hu := hu_of hr
    have hu64 := hr.units
    have hu65 := hu65_of hr
    refine ⟨_, (pss_cons (ps_set (i := 2) nd rfl (by first | exact Or.inl rfl | exact Or.inr rfl) (pe_sortedLam (T := B.T) (x := "pair") (k := 1) (by rfl) W.T.b_sorted (pe_lc (own := [("value", 1)]) rfl nd (i_list K (pv 0)) (blkOk_by (N := N_by_texts) (sc := defScope s_by_texts) (by decide +kernel)) (fun _ _ _ _ _ => (pg_name (i := 1) nd rfl (by first | exact Or.inl rfl | exact Or.inr rfl))) (fun _ _ _ _ _ => pts_nil) (fun _ _ _ _ _ => (pe_tup (pa_cons (pe_call (ok_value_text W n) (hr.mono (by first | decide | omega)) rfl W.D_value_text.g W.D_value_text.F.kp W.D_value_text.b .nil pass0 (pa_cons (pv 1) pa_nil)) (pa_cons (pv 1) pa_nil))))) B.by_texts.tb rfl B.by_texts.mem B.by_texts.uni (hr.mono (by first | decide | omega)) (nscope_by (by decide +kernel)) (by rfl) (by rfl) (fun _ _ _ _ => by rfl) nr (fun _ _ _ _ hr nr => (pe_ix (k_ixT K) (pv 0) pe_int (fun _ _ => rfl)))))
  (pss_one (ps_ret (pe_lc (own := [("_", 3), ("value", 1)]) rfl nd (i_list K (pv 2)) (blkOk_by (N := N_by_texts) (sc := defScope s_by_texts) (by decide +kernel)) (fun _ _ _ _ _ => (g_tup K (pg_tup (n := 2) rfl (pgs_cons (pg_name (i := 3) nd rfl (by first | exact Or.inl rfl | exact Or.inr rfl)) (pgs_cons (pg_name (i := 1) nd rfl (by first | exact Or.inl rfl | exact Or.inr rfl)) pgs_nil))))) (fun _ _ _ _ _ => pts_nil) (fun _ _ _ _ _ => (pv 1)))))), ?_⟩
    simp only [tSeq, tIfS, tNext, tRet, tRetN, tAsg, tDrop, tPar, tCons, tNil, tCB, tVar, tC, tOp, rI, rI0, rU, tTest, tB, tTup, tLst, gName, tIf, tAnd, tOr, tNot, tAndV, tOrV, tNotV, tUn, tCall, tChain, tSl, tNoPart, tPart, tBM, tBM0, tDGet, sDPut, tAugS, ipI, tAug, rIxT, rIxL, rMulK, rLenK, rLstK, tTruK, gTup, gCons, gNil, rEq, rNe, scal, tNever, rMulK, rGcd, L2.start, List.map, List.length, List.replicate, List.cons_append, List.nil_append, List.append_nil, List.set, List.set_cons_zero, List.set_cons_succ, List.getElem?_cons_succ, List.getElem?_cons_zero, Option.some.injEq, List.cons.injEq, V.int.injEq, V.str.injEq, V.bl.injEq, V.ref.injEq, and_true, true_and, exists_eq_left, exists_eq_left', exists_eq_right, exists_eq_right', exists_eq, exists_and_left, exists_and_right, and_assoc, exists_false, false_and, and_false, or_false, false_or, reduceCtorEq, Nat.reduceAdd, Nat.reduceSub, List.append_assoc, eq_self, if_true, if_false, Bool.false_eq_true, decide_eq_true_eq, List.length_cons, List.length_nil]
    have ml : ws.length = ms.length := by rw [dps_len dm, List.length_map]
    have wl := vws_len ms
    refine tlcL ?_
    simp only [tSeq, tIfS, tNext, tRet, tRetN, tAsg, tDrop, tPar, tCons, tNil, tCB, tVar, tC, tOp, rI, rI0, rU, tTest, tB, tTup, tLst, gName, tIf, tAnd, tOr, tNot, tAndV, tOrV, tNotV, tUn, tCall, tChain, tSl, tNoPart, tPart, tBM, tBM0, tDGet, sDPut, tAugS, ipI, tAug, rIxT, rIxL, rMulK, rLenK, rLstK, tTruK, gTup, gCons, gNil, rEq, rNe, scal, tNever, rMulK, rGcd, L2.start, List.map, List.length, List.replicate, List.cons_append, List.nil_append, List.append_nil, List.set, List.set_cons_zero, List.set_cons_succ, List.getElem?_cons_succ, List.getElem?_cons_zero, Option.some.injEq, List.cons.injEq, V.int.injEq, V.str.injEq, V.bl.injEq, V.ref.injEq, and_true, true_and, exists_eq_left, exists_eq_left', exists_eq_right, exists_eq_right', exists_eq, exists_and_left, exists_and_right, and_assoc, exists_false, false_and, and_false, or_false, false_or, reduceCtorEq, Nat.reduceAdd, Nat.reduceSub, List.append_assoc, eq_self, if_true, if_false, Bool.false_eq_true, decide_eq_true_eq, List.length_cons, List.length_nil]
    refine lcLe kr0 (ms.map vlD) (ms.map pairD) trivial (by rw [List.length_map, sizeLine_eq]; omega) (by simp) (fun H' k' _ => sqL_mk (k' _ _ ha fun z => z)) dm (vls_tup _) (pairs_tup _) (fun i d e x H2 e1 e2 dx k2 _ Q' q => ?_) (fun D H2 us hD k2 _ hd2 dp2 => ?_)
    · rw [List.getElem?_map] at e1 e2
      cases e3 : ms[i]? with
      | none => rw [e3] at e1; cases e1
      | some m =>
        rw [e3] at e1 e2; cases e1; cases e2
        have mm := List.mem_of_getElem? e3
        have wm := vw_mem mm
        simp only [tSeq, tIfS, tNext, tRet, tRetN, tAsg, tDrop, tPar, tCons, tNil, tCB, tVar, tC, tOp, rI, rI0, rU, tTest, tB, tTup, tLst, gName, tIf, tAnd, tOr, tNot, tAndV, tOrV, tNotV, tUn, tCall, tChain, tSl, tNoPart, tPart, tBM, tBM0, tDGet, sDPut, tAugS, ipI, tAug, rIxT, rIxL, rMulK, rLenK, rLstK, tTruK, gTup, gCons, gNil, rEq, rNe, scal, tNever, rMulK, rGcd, L2.start, List.map, List.length, List.replicate, List.cons_append, List.nil_append, List.append_nil, List.set, List.set_cons_zero, List.set_cons_succ, List.getElem?_cons_succ, List.getElem?_cons_zero, Option.some.injEq, List.cons.injEq, V.int.injEq, V.str.injEq, V.bl.injEq, V.ref.injEq, and_true, true_and, exists_eq_left, exists_eq_left', exists_eq_right, exists_eq_right', exists_eq, exists_and_left, exists_and_right, and_assoc, exists_false, false_and, and_false, or_false, false_or, reduceCtorEq, Nat.reduceAdd, Nat.reduceSub, List.append_assoc, eq_self, if_true, if_false, Bool.false_eq_true, decide_eq_true_eq, List.length_cons, List.length_nil]
        refine ⟨x, m, b, n, rfl, dx, Nat.le_refl n, om m mm, hb, by omega, fun H3 k3 => ⟨by decide, fun p hp => q _ _ (k3.trans (Kp.new hp)) trivial (.tup upd_same (.cons (.str _) (.cons (dv_tk dx ((Tk.of0 k3).trans (Tk.new hp))) .nil)))⟩⟩
    · have ul : us.length = ms.length := by rw [dps_len dp2, List.length_map]
      refine ⟨D, us, ms.map textV, rfl, sqL_mk hd2, by rw [List.length_map]; omega, tabs_kp tb k2, fun H3 eN T3 => ⟨sqL_mk (eN _ _ hd2 fun _ z => by cases z), fun i u kx hu hk H4 k4 => ?_, fun out q H4 sb hq k4 hq4 => ?_⟩⟩
      · rw [List.getElem?_map] at hk
        cases e3 : ms[i]? with
        | none => rw [e3] at hk; cases hk
        | some m =>
          rw [e3] at hk; cases hk
          have tkk : Tk H2 H4 := (Kt.ext (M := M0) eN).tk0.trans (Tk.of0 k4)
          obtain ⟨d, e4, du⟩ := dps_get (dps_tk tkk _ _ (pairs_tup _) dp2) hu
          rw [List.getElem?_map, e3] at e4; cases e4
          cases du with
          | tup ha4 hp4 =>
            cases hp4 with
            | cons h1 t1 =>
              cases h1
              simp only [tSeq, tIfS, tNext, tRet, tRetN, tAsg, tDrop, tPar, tCons, tNil, tCB, tVar, tC, tOp, rI, rI0, rU, tTest, tB, tTup, tLst, gName, tIf, tAnd, tOr, tNot, tAndV, tOrV, tNotV, tUn, tCall, tChain, tSl, tNoPart, tPart, tBM, tBM0, tDGet, sDPut, tAugS, ipI, tAug, rIxT, rIxL, rMulK, rLenK, rLstK, tTruK, gTup, gCons, gNil, rEq, rNe, scal, tNever, rMulK, rGcd, L2.start, List.map, List.length, List.replicate, List.cons_append, List.nil_append, List.append_nil, List.set, List.set_cons_zero, List.set_cons_succ, List.getElem?_cons_succ, List.getElem?_cons_zero, Option.some.injEq, List.cons.injEq, V.int.injEq, V.str.injEq, V.bl.injEq, V.ref.injEq, and_true, true_and, exists_eq_left, exists_eq_left', exists_eq_right, exists_eq_right', exists_eq, exists_and_left, exists_and_right, and_assoc, exists_false, false_and, and_false, or_false, false_or, reduceCtorEq, Nat.reduceAdd, Nat.reduceSub, List.append_assoc, eq_self, if_true, if_false, Bool.false_eq_true, decide_eq_true_eq, List.length_cons, List.length_nil]
              exact ⟨_, sqT_mk ha4, _, atI_nat (j := 0) rfl, rfl, Kp.refl _⟩
      · show tLc _ _ _ _ _ _ (upd H4 q (.lst out)) Q
        have tkk : Tk H2 (upd H4 q (.lst out)) := ((Kt.ext (M := M0) eN).tk0.trans (Tk.of0 k4)).trans (Tk.new hq4)
        have dout := sorted_by pairD (dps_tk tkk _ _ (pairs_tup _) dp2) sb
        obtain ⟨ys, yl, dys, hys⟩ := pairs_split dout
        have ol : out.length = ms.length := by rw [dps_len dout, List.length_map, (sortV_perm ms).length_eq]
        have k0 : Kt M0 H (upd H4 q (.lst out)) := (((Kt.of k2).trans (Kt.ext eN)).trans (Kt.of k4)).trans (Kt.new hq4)
        refine tlcLg ?_
        simp only [tSeq, tIfS, tNext, tRet, tRetN, tAsg, tDrop, tPar, tCons, tNil, tCB, tVar, tC, tOp, rI, rI0, rU, tTest, tB, tTup, tLst, gName, tIf, tAnd, tOr, tNot, tAndV, tOrV, tNotV, tUn, tCall, tChain, tSl, tNoPart, tPart, tBM, tBM0, tDGet, sDPut, tAugS, ipI, tAug, rIxT, rIxL, rMulK, rLenK, rLstK, tTruK, gTup, gCons, gNil, rEq, rNe, scal, tNever, rMulK, rGcd, L2.start, List.map, List.length, List.replicate, List.cons_append, List.nil_append, List.append_nil, List.set, List.set_cons_zero, List.set_cons_succ, List.getElem?_cons_succ, List.getElem?_cons_zero, Option.some.injEq, List.cons.injEq, V.int.injEq, V.str.injEq, V.bl.injEq, V.ref.injEq, and_true, true_and, exists_eq_left, exists_eq_left', exists_eq_right, exists_eq_right', exists_eq, exists_and_left, exists_and_right, and_assoc, exists_false, false_and, and_false, or_false, false_or, reduceCtorEq, Nat.reduceAdd, Nat.reduceSub, List.append_assoc, eq_self, if_true, if_false, Bool.false_eq_true, decide_eq_true_eq, List.length_cons, List.length_nil]
        refine lcKnown (ws := ys) upd_same yl (by rw [sizeLine_eq]; omega) (fun i x y H5 hx hy k5 Y hY => ?_) (fun D2 H5 hD2 k5 hd5 => ?_)
        · obtain ⟨a2, u2, rfl, ha2⟩ := hys i x y hx hy
          simp only [wipe, List.foldl, tSeq, tIfS, tNext, tRet, tRetN, tAsg, tDrop, tPar, tCons, tNil, tCB, tVar, tC, tOp, rI, rI0, rU, tTest, tB, tTup, tLst, gName, tIf, tAnd, tOr, tNot, tAndV, tOrV, tNotV, tUn, tCall, tChain, tSl, tNoPart, tPart, tBM, tBM0, tDGet, sDPut, tAugS, ipI, tAug, rIxT, rIxL, rMulK, rLenK, rLstK, tTruK, gTup, gCons, gNil, rEq, rNe, scal, tNever, rMulK, rGcd, L2.start, List.map, List.length, List.replicate, List.cons_append, List.nil_append, List.append_nil, List.set, List.set_cons_zero, List.set_cons_succ, List.getElem?_cons_succ, List.getElem?_cons_zero, Option.some.injEq, List.cons.injEq, V.int.injEq, V.str.injEq, V.bl.injEq, V.ref.injEq, and_true, true_and, exists_eq_left, exists_eq_left', exists_eq_right, exists_eq_right', exists_eq, exists_and_left, exists_and_right, and_assoc, exists_false, false_and, and_false, or_false, false_or, reduceCtorEq, Nat.reduceAdd, Nat.reduceSub, List.append_assoc, eq_self, if_true, if_false, Bool.false_eq_true, decide_eq_true_eq, List.length_cons, List.length_nil]
          exact ⟨_, sqT_mk (k5 _ _ ha2 fun z => z), rfl, _, _, rfl, _, _, rfl, rfl, hY⟩
        · exact k D2 H5 ys (k0.trans (Kt.of k5)) (tabs_kp (tabs_new (tabs_kp T3 k4) hq4) k5) hd5 (dvs_tk dys (Tk.of0 k5))
end
end G
set_option Elab.async false
set_option linter.all false
set_option maxRecDepth 100000
set_option maxHeartbeats 4000000
set_option exponentiation.threshold 10000
namespace G
-- RDX tBMF, tDZ
open PySem L2 LamX NdefX
section
variable {P : Program} {w : World} {K : PySem.W.Frag} {mg : Str → Option Value} {base : Heap}
theorem lead_map {l : List Pt} {f : Pt → Pt} {y : Pt} (h : y ∈ l) : leadP l (l.map f) y = f y := by
  obtain ⟨_, h2, h3⟩ := lead_at (news := l.map f) h (by simp)
  rw [List.getElem?_map, h2] at h3
  exact (Option.some.inj h3).symm
def repV (x : Vl) (olds news : List Pt) : Vl := movedV x (endsP olds news (restP olds (supV x))).1 (endsP olds news (restP olds (supV x))).2
def sp_led (K : PySem.W.Frag) (T : List (Addr × Str)) (n : Nat) : Sp := fun vs H Q _ => ∃ (v : V) (d : Addr) (x : Vl) (olds news : List Pt) (bo bn : Nat), vs = [v, .ref d] ∧ Dp K H v (vlD x) ∧ VOk n bo x ∧ Nf x ∧ gN n bo ≤ 1900 ∧ vw x < 1000 ∧ LedBy K H d olds news ∧ PtsOk 4000 olds ∧ PtsOk bn news ∧ gN n bn ≤ 1900 ∧ olds.length < 2000 ∧ (∀ p ∈ supV x, p ∈ olds) ∧ Tabs T H ∧
  ∀ (y : V) (H' : Hp), Kt M0 H H' → Tabs T H' → Dp K H' y (vlD (movedV x olds news)) → Q y H'
def sp_ledS (K : PySem.W.Frag) (T : List (Addr × Str)) (n : Nat) : Sp := fun vs H Q _ => ∃ (v : V) (d : Addr) (ps : List Pt) (ms : List Vl) (olds news : List Pt) (bo bn : Nat), vs = [v, .ref d] ∧ Dp K H v (vlD (.set ps ms)) ∧ VOk n bo (.set ps ms) ∧ Nf (.set ps ms) ∧ gN n bo ≤ 1900 ∧ vw (.set ps ms) < 1000 ∧ LedBy K H d olds news ∧ PtsOk 4000 olds ∧ PtsOk bn news ∧ gN n bn ≤ 1900 ∧ olds.length < 2000 ∧ (∀ p ∈ ps, p ∈ olds) ∧ Tabs T H ∧
  ∀ (y : V) (H' : Hp), Kt M0 H H' → Tabs T H' → Dp K H' y (vlD (movedV (.set ps ms) olds news)) → Q y H'
def sp_rep (K : PySem.W.Frag) (T : List (Addr × Str)) (n : Nat) : Sp := fun vs H Q _ => ∃ (v : V) (a c : Addr) (x : Vl) (ow nw : List V) (olds news : List Pt) (bo bn : Nat), vs = [v, .ref a, .ref c] ∧ Dp K H v (vlD x) ∧ VOk n bo x ∧ Nf x ∧ gN n bo ≤ 1900 ∧ vw x < 1000 ∧ SqT K H a ow ∧ SqT K H c nw ∧ DpAll K H ow (olds.map ptD) ∧ DpAll K H nw (news.map ptD) ∧ PtsOk bo olds ∧ PtsOk bn news ∧ gN n (gB bn) ≤ 1900 ∧ olds.length = news.length ∧ olds.length < 1000 ∧ Tabs T H ∧
  ∀ (y : V) (H' : Hp), Kt M0 H H' → Tabs T H' → Dp K H' y (vlD (repV x olds news)) → Q y H'
theorem ok_replaced (W : Ds K mg) (T : List (Addr × Str)) (n : Nat) (ihl : FnG P w K mg base (3 * n + 8) W.f_led W.fd_led P_led (sp_led K T n)) : FnG P w K mg base (3 * n + 9) W.f_replaced W.fd_replaced P_replaced (sp_rep K T n) := by
  refine fnG_ok W.D_replaced.F sc_replaced (fun vs H Q E h => ?len) (fun cdv A outer s H vs Q E nr hr h => ?body)
  case len =>
    obtain ⟨v, a, c, x, ow, nw, olds, news, bo, bn, rfl, _⟩ := h
    rfl
  case body =>
    obtain ⟨v, a, c, x, ow, nw, olds, news, bo, bn, rfl, dx, ox, nf, hbo, hw, sa, sc, da, dc, oo, on, hbn, hl, hlo, tb, k⟩ := h
    have nd := sc_replaced.nd
    have hu := hu_of hr
    have hu64 := hr.units
    have hu65 := hu65_of hr
    refine ⟨_, (pss_cons (ps_set (i := 3) nd rfl (by first | exact Or.inl rfl | exact Or.inr rfl) (pe_call (ok_support W n) (hr.mono (by first | decide | omega)) rfl W.D_support.g W.D_support.F.kp W.D_support.b .nil pass0 (pa_cons (pv 0) pa_nil)))
  (pss_cons (ps_set (i := 4) nd rfl (by first | exact Or.inl rfl | exact Or.inr rfl) (pe_callTy (c_tuple K) (by rfl) W.T.b_tuple (by decide +kernel) (pa_cons (pe_call (ok_places_of W) (hr.mono (by first | decide | omega)) rfl W.D_places_of.g W.D_places_of.F.kp W.D_places_of.b .nil pass0 (pa_cons (pe_call (ok_codes_of W) (hr.mono (by first | decide | omega)) rfl W.D_codes_of.g W.D_codes_of.F.kp W.D_codes_of.b .nil pass0 (pa_cons (pv 3) (pa_cons (pv 1) pa_nil))) (pa_cons (pv 2) pa_nil))) pa_nil)))
  (pss_one (ps_ret (pe_ifExp (pt_cmpR (k_eqD K hu64) (pv 4) (pv 3) (nomark _)) (pv 0) (peG_call ihl nr (hr.mono (by first | decide | omega)) rfl W.D_led.g W.D_led.F.kp W.D_led.b (pa_cons (pv 0) (pa_cons (pe_dictZip K rfl (by rfl) W.T.b_dict (by rfl) W.T.b_zip hu64 (pa_cons (pv 3) (pa_cons (pv 4) pa_nil))) pa_nil)))))))), ?_⟩
    simp only [tSeq, tIfS, tNext, tRet, tRetN, tAsg, tDrop, tPar, tCons, tNil, tCB, tVar, tC, tOp, rI, rI0, rU, tTest, tB, tTup, tLst, gName, tIf, tAnd, tOr, tNot, tAndV, tOrV, tNotV, tUn, tCall, tChain, tSl, tNoPart, tPart, tBM, tBM0, tDGet, sDPut, tAugS, ipI, tAug, rIxT, rIxL, rMulK, rLenK, rLstK, tTruK, gTup, gCons, gNil, rEq, rNe, scal, tNever, rMulK, rGcd, L2.start, List.map, List.length, List.replicate, List.cons_append, List.nil_append, List.append_nil, List.set, List.set_cons_zero, List.set_cons_succ, List.getElem?_cons_succ, List.getElem?_cons_zero, Option.some.injEq, List.cons.injEq, V.int.injEq, V.str.injEq, V.bl.injEq, V.ref.injEq, and_true, true_and, exists_eq_left, exists_eq_left', exists_eq_right, exists_eq_right', exists_eq, exists_and_left, exists_and_right, and_assoc, exists_false, false_and, and_false, or_false, false_or, reduceCtorEq, Nat.reduceAdd, Nat.reduceSub, List.append_assoc, eq_self, if_true, if_false, Bool.false_eq_true, decide_eq_true_eq, List.length_cons, List.length_nil, tBMF, tDZ]
    have gbo := gN_ge n bo
    have gbn := gN_ge n (gB bn)
    have gbb : bn ≤ 1000 := by have : gB bn = 2 * bn + 12 := rfl; omega
    have so := sup_ok ox
    have sl := sup_len ox
    have go : GoOk bo 1000 olds news (supV x) := ⟨oo, on.mono gbb, hl, so, by omega⟩
    have go' : GoOk bo bn olds news (supV x) := ⟨oo, on, hl, so, by omega⟩
    refine ⟨v, x, bo, rfl, dx, ox, by omega, hw, fun p H1 us k1 hp1 dus => ?_⟩
    refine ⟨p, a, us, ow, supV x, olds, rfl, hp1, sqT_tk (Tk.of0 k1) sa, dus, pts_tk da (Tk.of0 k1), fun y hy => ⟨so.ok y hy, (so.sz y hy).mono (by omega)⟩, oo.mono (by omega), by omega, hlo, fun q H2 k2 fz => ?_⟩
    have k12 := k1.trans k2
    refine ⟨q, c, nw, olds, news, supV x, bo, rfl, fz, sqT_tk (Tk.of0 k12) sc, pts_tk dc (Tk.of0 k12), go, hlo, fun D H3 us3 hD k3 hd3 dus3 => ?_⟩
    have k13 := k12.trans k3
    refine ⟨D, us3, rfl, Or.inl ⟨sqL_mk hd3, fun t ht => ?_⟩⟩
    have k14 := k13.trans (Kp.new (o := .tup us3) ht)
    have hp4 : SqT K (upd H3 t (.tup us3)) p us := sqT_tk (Tk.of0 ((k2.trans k3).trans (Kp.new ht))) hp1
    have du4 : DpAll K (upd H3 t (.tup us3)) us ((supV x).map ptD) := pts_tk dus (Tk.of0 ((k2.trans k3).trans (Kp.new ht)))
    have dp4 : DpAll K (upd H3 t (.tup us3)) us3 (((supV x).map (goP olds news (supV x))).map ptD) := pts_tk dus3 (Tk.new ht)
    have tb4 := tabs_kp tb k14
    have dx4 := dv_tk dx (Tk.of0 k14)
    have ul : us.length = (supV x).length := by rw [dps_len du4, List.length_map]
    refine eqD (.tup (sqT_mk upd_same) dp4.up) (.tup hp4 du4.up) (ptT_shaped _) (ptT_shaped _) (b := decide ((supV x).map (goP olds news (supV x)) = supV x)) (by rw [PyData.eqv]; exact pts_eqv _ _) ⟨_, rfl, ite2 (fun z => ?_) (fun z => ?_)⟩
    · have z := of_decide_eq_true z
      refine k v _ (Kt.of k14) tb4 ?_
      have st : repV x olds news = x := moved_stay (a := 0) ox nf fun y hy => by
        obtain ⟨i, hi⟩ := List.getElem?_of_mem hy
        have e := congrArg (fun l : List Pt => l[i]?) z
        simp only [List.getElem?_map, hi] at e
        exact Option.some.inj e
      rw [st]; exact dx4
    · obtain ⟨kb, kl, led⟩ := keyed_pts du4 dp4 (by simp) so.asc.nodup
      refine ⟨p, rfl, t, rfl, us, hp4, us3, sqT_mk upd_same, _, kb, by rw [kl, sizeLine_eq]; omega, fun d hd => ?_⟩
      refine ⟨v, d, x, supV x, (supV x).map (goP olds news (supV x)), bo, gB bn, rfl, dv_tk dx4 (Tk.new hd), ox, nf, hbo, hw, led d hd, so.mono (by omega), go'.go_ok, hbn, by omega, fun y hy => hy, tabs_new tb4 hd, fun y H6 k6 t6 d6 => k y H6 ((Kt.of (k14.trans (Kp.new hd))).trans k6) t6 ?_⟩
      have e : repV x olds news = movedV x (supV x) ((supV x).map (goP olds news (supV x))) := moved_congr ox fun y hy => (lead_map (f := goP olds news (supV x)) hy).symm
      rw [e]; exact d6
theorem ok_led_set (W : Ds K mg) (B : Tbs W base) (n : Nat) (ihr : FnG P w K mg base (3 * n + 9) W.f_replaced W.fd_replaced P_replaced (sp_rep K B.T n)) : FnG P w K mg base (3 * n + 10) W.f_led_set W.fd_led_set P_led_set (sp_ledS K B.T (n + 1)) := by
  refine fnG_ok W.D_led_set.F sc_led_set (fun vs H Q E h => ?len) (fun cdv A outer s H vs Q E nr hr h => ?body)
  case len =>
    obtain ⟨v, d, ps, ms, olds, news, bo, bn, rfl, _⟩ := h
    rfl
  case body =>
    obtain ⟨v, d, ps, ms, olds, news, bo, bn, rfl, dx, ox, nf, hbo, hw, led, oo, on, hbn, hlo, hs, tb, k⟩ := h
    have nd := sc_led_set.nd
    have hu := hu_of hr
    have hu64 := hr.units
    have hu65 := hu65_of hr
    refine ⟨_, (pss_cons (ps_set (i := 2) nd rfl (by first | exact Or.inl rfl | exact Or.inr rfl) (pe_ix (k_ixT K) (pv 0) pe_int (fun _ _ => rfl)))
  (pss_cons (ps_set (i := 4) nd rfl (by first | exact Or.inl rfl | exact Or.inr rfl) (pe_callTy (c_tuple K) (by rfl) W.T.b_tuple (by decide +kernel) (pa_cons (pe_lc (own := [("point", 3)]) rfl nd (i_tup K (pv 2)) (blkOk_by (N := N_led_set) (sc := defScope s_led_set) (by decide +kernel)) (fun _ _ _ _ _ => (pg_name (i := 3) nd rfl (by first | exact Or.inl rfl | exact Or.inr rfl))) (fun _ _ _ _ _ => pts_nil) (fun _ _ _ _ _ => (pe_dget hu (pv 1) (pv 3) (fun _ _ => rfl)))) pa_nil)))
  (pss_cons (ps_if (pt_cmpR (k_eqD K hu64) (pv 4) (pv 2) (nomark _))
     (pss_one (ps_ret (pv 0)))
     pss_nil)
  (pss_cons (ps_setLc (i := 6) (own := [("member", 5)]) rfl nd rfl rfl (sw_true rfl rfl rfl (by decide +kernel)) (i_tup K (pe_ix (k_ixT K) (pv 0) pe_int (fun _ _ => rfl))) (blkOk_by (N := N_led_set) (sc := defScope s_led_set) (by decide +kernel)) (fun _ _ _ _ _ => (pg_name (i := 5) nd rfl (by first | exact Or.inl rfl | exact Or.inr rfl))) (fun _ _ _ _ _ => pts_nil) (fun _ _ _ _ _ => (peG_call ihr nr (hr.mono (by first | decide | omega)) rfl W.D_replaced.g W.D_replaced.F.kp W.D_replaced.b (pa_cons (pv 5) (pa_cons (pv 2) (pa_cons (pv 4) pa_nil))))))
  (pss_one (ps_ret (pe_tup (pa_cons pe_str (pa_cons (pv 4) (pa_cons (pe_callTy (c_tuple K) (by rfl) W.T.b_tuple (by decide +kernel) (pa_cons (peG_call (ok_by_texts W B n) nr (hr.mono (by first | decide | omega)) rfl W.D_by_texts.g W.D_by_texts.F.kp W.D_by_texts.b (pa_cons (pv 6) pa_nil)) pa_nil)) pa_nil)))))))))), ?_⟩
    simp only [tSeq, tIfS, tNext, tRet, tRetN, tAsg, tDrop, tPar, tCons, tNil, tCB, tVar, tC, tOp, rI, rI0, rU, tTest, tB, tTup, tLst, gName, tIf, tAnd, tOr, tNot, tAndV, tOrV, tNotV, tUn, tCall, tChain, tSl, tNoPart, tPart, tBM, tBM0, tDGet, sDPut, tAugS, ipI, tAug, rIxT, rIxL, rMulK, rLenK, rLstK, tTruK, gTup, gCons, gNil, rEq, rNe, scal, tNever, rMulK, rGcd, L2.start, List.map, List.length, List.replicate, List.cons_append, List.nil_append, List.append_nil, List.set, List.set_cons_zero, List.set_cons_succ, List.getElem?_cons_succ, List.getElem?_cons_zero, Option.some.injEq, List.cons.injEq, V.int.injEq, V.str.injEq, V.bl.injEq, V.ref.injEq, and_true, true_and, exists_eq_left, exists_eq_left', exists_eq_right, exists_eq_right', exists_eq, exists_and_left, exists_and_right, and_assoc, exists_false, false_and, and_false, or_false, false_or, reduceCtorEq, Nat.reduceAdd, Nat.reduceSub, List.append_assoc, eq_self, if_true, if_false, Bool.false_eq_true, decide_eq_true_eq, List.length_cons, List.length_nil, tBMF, tDZ]
    obtain ⟨t, sp, sm, pw, mw, rfl, ha, hp, dp, hm, dm⟩ := dv_set dx
    refine ⟨t, rfl, _, ha, _, atI_nat (j := 1) rfl, tlcT ?_⟩
    simp only [tSeq, tIfS, tNext, tRet, tRetN, tAsg, tDrop, tPar, tCons, tNil, tCB, tVar, tC, tOp, rI, rI0, rU, tTest, tB, tTup, tLst, gName, tIf, tAnd, tOr, tNot, tAndV, tOrV, tNotV, tUn, tCall, tChain, tSl, tNoPart, tPart, tBM, tBM0, tDGet, sDPut, tAugS, ipI, tAug, rIxT, rIxL, rMulK, rLenK, rLstK, tTruK, gTup, gCons, gNil, rEq, rNe, scal, tNever, rMulK, rGcd, L2.start, List.map, List.length, List.replicate, List.cons_append, List.nil_append, List.append_nil, List.set, List.set_cons_zero, List.set_cons_succ, List.getElem?_cons_succ, List.getElem?_cons_zero, Option.some.injEq, List.cons.injEq, V.int.injEq, V.str.injEq, V.bl.injEq, V.ref.injEq, and_true, true_and, exists_eq_left, exists_eq_left', exists_eq_right, exists_eq_right', exists_eq, exists_and_left, exists_and_right, and_assoc, exists_false, false_and, and_false, or_false, false_or, reduceCtorEq, Nat.reduceAdd, Nat.reduceSub, List.append_assoc, eq_self, if_true, if_false, Bool.false_eq_true, decide_eq_true_eq, List.length_cons, List.length_nil, tBMF, tDZ]
    obtain ⟨kvs, hd, _, _⟩ := led.ex
    have hl := led.l
    have ox' := ox
    have nf' := nf
    cases ox with
    | set okp okm =>
    cases nf with
    | set nm _ _ =>
    have hw' := hw
    rw [vw] at hw
    have wms := vws_len ms
    have hq := lead_ok oo on hl okp.asc hs
    have szL := sizeLine_eq
    refine lcTe kr0 (ps.map ptD) ((ps.map (leadP olds news)).map ptD) trivial (by simp; omega) (by simp) hp dp (ptDs_tup _) (ptDs_tup _) (fun i z e y H2 e1 e2 dy k2 _ Q' q => ?_) (fun D H1 nw hD k1 _ hd1 dn => ?_)
    · rw [List.getElem?_map] at e1
      cases e3 : ps[i]? with
      | none => rw [e3] at e1; cases e1
      | some z =>
        rw [e3] at e1; cases e1
        rw [List.getElem?_map, List.getElem?_map, e3] at e2; cases e2
        have mz := hs z (List.mem_of_getElem? e3)
        obtain ⟨u, gu, du⟩ := (led.tk (by rw [hd]; exact k2 _ _ hd fun z => z) (Tk.of0 k2)).get mz dy
        simp only [tSeq, tIfS, tNext, tRet, tRetN, tAsg, tDrop, tPar, tCons, tNil, tCB, tVar, tC, tOp, rI, rI0, rU, tTest, tB, tTup, tLst, gName, tIf, tAnd, tOr, tNot, tAndV, tOrV, tNotV, tUn, tCall, tChain, tSl, tNoPart, tPart, tBM, tBM0, tDGet, sDPut, tAugS, ipI, tAug, rIxT, rIxL, rMulK, rLenK, rLstK, tTruK, gTup, gCons, gNil, rEq, rNe, scal, tNever, rMulK, rGcd, L2.start, List.map, List.length, List.replicate, List.cons_append, List.nil_append, List.append_nil, List.set, List.set_cons_zero, List.set_cons_succ, List.getElem?_cons_succ, List.getElem?_cons_zero, Option.some.injEq, List.cons.injEq, V.int.injEq, V.str.injEq, V.bl.injEq, V.ref.injEq, and_true, true_and, exists_eq_left, exists_eq_left', exists_eq_right, exists_eq_right', exists_eq, exists_and_left, exists_and_right, and_assoc, exists_false, false_and, and_false, or_false, false_or, reduceCtorEq, Nat.reduceAdd, Nat.reduceSub, List.append_assoc, eq_self, if_true, if_false, Bool.false_eq_true, decide_eq_true_eq, List.length_cons, List.length_nil, tBMF, tDZ]
        exact ⟨u, gu, q _ _ (Kp.refl _) trivial du⟩
    · refine ⟨D, nw, rfl, Or.inl ⟨sqL_mk hd1, fun tn htn => ?_⟩⟩
      have k12 : Kp M0 H (upd H1 tn (.tup nw)) := k1.trans (Kp.new htn)
      have dn2 := pts_tk dn (Tk.new (o := .tup nw) htn)
      have hp2 := sqT_tk (Tk.of0 k12) hp
      have dp2 := pts_tk dp (Tk.of0 k12)
      have tb2 := tabs_kp tb k12
      have pl : pw.length = ps.length := by rw [dps_len dp, List.length_map]
      refine eqD (.tup (sqT_mk upd_same) dn2.up) (.tup hp2 dp2.up) (ptT_shaped _) (ptT_shaped _) (b := decide (ps.map (leadP olds news) = ps)) (by rw [PyData.eqv]; exact pts_eqv _ _) ⟨_, rfl, ite2 (fun z => ?_) (fun z => ?_)⟩
      · have z := of_decide_eq_true z
        have st : movedV (.set ps ms) olds news = .set ps ms := moved_stay (a := 0) ox' nf' fun y hy => by
          rw [supV] at hy
          obtain ⟨i, hi⟩ := List.getElem?_of_mem hy
          have e := congrArg (fun l : List Pt => l[i]?) z
          simp only [List.getElem?_map, hi] at e
          exact Option.some.inj e
        exact k _ _ (Kt.of k12) tb2 (by rw [st]; exact dv_tk dx (Tk.of0 k12))
      · refine tlcT ?_
        simp only [tSeq, tIfS, tNext, tRet, tRetN, tAsg, tDrop, tPar, tCons, tNil, tCB, tVar, tC, tOp, rI, rI0, rU, tTest, tB, tTup, tLst, gName, tIf, tAnd, tOr, tNot, tAndV, tOrV, tNotV, tUn, tCall, tChain, tSl, tNoPart, tPart, tBM, tBM0, tDGet, sDPut, tAugS, ipI, tAug, rIxT, rIxL, rMulK, rLenK, rLstK, tTruK, gTup, gCons, gNil, rEq, rNe, scal, tNever, rMulK, rGcd, L2.start, List.map, List.length, List.replicate, List.cons_append, List.nil_append, List.append_nil, List.set, List.set_cons_zero, List.set_cons_succ, List.getElem?_cons_succ, List.getElem?_cons_zero, Option.some.injEq, List.cons.injEq, V.int.injEq, V.str.injEq, V.bl.injEq, V.ref.injEq, and_true, true_and, exists_eq_left, exists_eq_left', exists_eq_right, exists_eq_right', exists_eq, exists_and_left, exists_and_right, and_assoc, exists_false, false_and, and_false, or_false, false_or, reduceCtorEq, Nat.reduceAdd, Nat.reduceSub, List.append_assoc, eq_self, if_true, if_false, Bool.false_eq_true, decide_eq_true_eq, List.length_cons, List.length_nil, tBMF, tDZ]
        refine ⟨_, sqT_tk (Tk.of0 k12) ha, _, atI_nat (j := 2) rfl, ?_⟩
        have ml : mw.length = ms.length := by rw [dps_len dm, List.length_map]
        have mo := moved_ok ox' oo on hl (by rw [supV]; exact hs) (by rw [vw]; exact hw)
        rw [movedV] at mo
        obtain ⟨mo1, mo2⟩ := mo
        rw [vw, vw, List.length_map, vws_perm (sortV_perm _)] at mo2
        have okM : ∀ z ∈ movedMs ms ps (ps.map (leadP olds news)), VOk n (gB bn) z := fun z hz => by
          cases mo1 with
          | set _ hz' => exact hz' z ((sortV_perm _).mem_iff.mpr hz)
        refine lcTe (krT B.T) (ms.map vlD) ((movedMs ms ps (ps.map (leadP olds news))).map vlD) tb2 (by simp [movedMs_map]; omega) (by simp [movedMs_map]) (sqT_tk (Tk.of0 k12) hm) (dvs_tk dm (Tk.of0 k12)) (vls_tup _) (vls_tup _) (fun i z e y H2 e1 e2 dy k2 t2 Q' q => ?_) (fun D2 H2 us2 hD2 k2 t2 hd2 da2 => ?_)
        · rw [List.getElem?_map] at e1
          cases e3 : ms[i]? with
          | none => rw [e3] at e1; cases e1
          | some m =>
            rw [e3] at e1; cases e1
            rw [List.getElem?_map, movedMs_map, List.getElem?_map, e3] at e2; cases e2
            have mm := List.mem_of_getElem? e3
            have wm := vw_mem mm
            simp only [tSeq, tIfS, tNext, tRet, tRetN, tAsg, tDrop, tPar, tCons, tNil, tCB, tVar, tC, tOp, rI, rI0, rU, tTest, tB, tTup, tLst, gName, tIf, tAnd, tOr, tNot, tAndV, tOrV, tNotV, tUn, tCall, tChain, tSl, tNoPart, tPart, tBM, tBM0, tDGet, sDPut, tAugS, ipI, tAug, rIxT, rIxL, rMulK, rLenK, rLstK, tTruK, gTup, gCons, gNil, rEq, rNe, scal, tNever, rMulK, rGcd, L2.start, List.map, List.length, List.replicate, List.cons_append, List.nil_append, List.append_nil, List.set, List.set_cons_zero, List.set_cons_succ, List.getElem?_cons_succ, List.getElem?_cons_zero, Option.some.injEq, List.cons.injEq, V.int.injEq, V.str.injEq, V.bl.injEq, V.ref.injEq, and_true, true_and, exists_eq_left, exists_eq_left', exists_eq_right, exists_eq_right', exists_eq, exists_and_left, exists_and_right, and_assoc, exists_false, false_and, and_false, or_false, false_or, reduceCtorEq, Nat.reduceAdd, Nat.reduceSub, List.append_assoc, eq_self, if_true, if_false, Bool.false_eq_true, decide_eq_true_eq, List.length_cons, List.length_nil, tBMF, tDZ]
            have tk2 := k2.tk0
            exact ⟨y, sp, tn, m, pw, nw, ps, ps.map (leadP olds news), gB bo, bn, rfl, dy, okm m mm, nm m mm, hbo, by omega, sqT_tk tk2 hp2, sqT_tk tk2 (sqT_mk upd_same), pts_tk dp2 tk2, pts_tk dn2 tk2, okp.mono (by unfold gB; omega), hq, hbn, by simp, by omega, t2, fun y2 H4 k4 t4 d4 => q _ _ k4 t4 d4⟩
        · have k02 : Kt M0 H H2 := (Kt.of k12).trans k2
          refine ⟨D2, us2, movedMs ms ps (ps.map (leadP olds news)), gB bn, rfl, hd2, da2, okM, hbn, by omega, t2, fun D3 H3 us3 k3 t3 hd3 da3 => ?_⟩
          refine ⟨D3, us3, rfl, Or.inl ⟨sqL_mk hd3, fun t5 ht5 => ⟨by omega, fun t6 ht6 => ?_⟩⟩⟩
          have k56 : Kp M0 H3 _ := (Kp.new (o := .tup us3) ht5).trans (Kp.new (o := .tup [.str "set", .ref tn, .ref t5]) ht6)
          have k26 : Kt M0 (upd H1 tn (.tup nw)) _ := (k2.trans k3).trans (Kt.of k56)
          refine k _ _ ((k02.trans k3).trans (Kt.of k56)) (tabs_kp t3 k56) ?_
          rw [movedV]
          exact dv_mkset (tpl upd_same) (tpl (k26 _ _ upd_same (fun _ z => by cases z) fun z => z)) (pts_tk dn2 k26.tk0) (tpl (by rw [upd_ne (ne_of_none upd_same ht6)]; exact upd_same)) (dvs_tk da3 (Tk.of0 k56))
end
end G
set_option Elab.async false
set_option linter.all false
set_option maxRecDepth 100000
set_option maxHeartbeats 4000000
set_option exponentiation.threshold 10000
namespace G
open PySem L2 LamX NdefX
section
variable {P : Program} {w : World} {K : PySem.W.Frag} {mg : Str → Option Value} {base : Heap}
theorem ok_led (W : Ds K mg) (T : List (Addr × Str)) (n : Nat) (ihl : FnG P w K mg base (3 * n + 5) W.f_led W.fd_led P_led (prevS (sp_led K T) n)) (ihs : FnG P w K mg base (3 * n + 7) W.f_led_set W.fd_led_set P_led_set (prevS (fun m => sp_ledS K T (m + 1)) n)) : FnG P w K mg base (3 * n + 8) W.f_led W.fd_led P_led (sp_led K T n) := by
  refine fnG_ok W.D_led.F sc_led (fun vs H Q E h => ?len) (fun cdv A outer s H vs Q E nr hr h => ?body)
  case len =>
    obtain ⟨v, d, x, olds, news, bo, bn, rfl, _⟩ := h
    rfl
  case body =>
    obtain ⟨v, d, x, olds, news, bo, bn, rfl, dx, ox, nf, hbo, hw, led, oo, on, hbn, hlo, hs, tb, k⟩ := h
    have nd := sc_led.nd
    have hu := hu_of hr
    have hu64 := hr.units
    have hu65 := hu65_of hr
    refine ⟨_, (pss_cons (ps_if (pt_val (pe_callB (c_isi K) (by rfl) W.T.b_isinstance (by decide +kernel) (pa_cons (pv 0) (pa_cons (pe_bltn (v := .ty "str") (u := .type "str") (by rfl) W.T.b_str (by decide +kernel) (by rfl)) pa_nil))))
     (pss_one (ps_ret (pv 0)))
     pss_nil)
  (pss_cons (ps_if (pt_cmpR (k_eqD K hu64) (pe_ix (k_ixT K) (pv 0) pe_int (fun _ _ => rfl)) pe_str (nomark _))
     (pss_one (ps_ret (pe_tup (pa_cons pe_str (k_star K (pe_lc (own := [("part", 2)]) rfl nd (i_tup K (pe_slice (k_slT K) (pv 0) (po_some pe_int) po_none)) (blkOk_by (N := N_led) (sc := defScope s_led) (by decide +kernel)) (fun _ _ _ _ _ => (pg_name (i := 2) nd rfl (by first | exact Or.inl rfl | exact Or.inr rfl))) (fun _ _ _ _ _ => pts_nil) (fun _ _ _ _ _ => (pe_ifExp (pt_val (pe_callB (c_isi K) (by rfl) W.T.b_isinstance (by decide +kernel) (pa_cons (pv 2) (pa_cons (pe_bltn (v := .ty "str") (u := .type "str") (by rfl) W.T.b_str (by decide +kernel) (by rfl)) pa_nil)))) (pv 2) (peG_call ihl nr (hr.mono (by first | decide | omega)) rfl W.D_led.g W.D_led.F.kp W.D_led.b (pa_cons (pv 2) (pa_cons (pv 1) pa_nil)))))) pa_nil)))))
     pss_nil)
  (pss_cons (ps_if (pt_cmpR (k_eqD K hu64) (pe_ix (k_ixT K) (pv 0) pe_int (fun _ _ => rfl)) pe_str (nomark _))
     (pss_one (ps_ret (peG_call ihs nr (hr.mono (by first | decide | omega)) rfl W.D_led_set.g W.D_led_set.F.kp W.D_led_set.b (pa_cons (pv 0) (pa_cons (pv 1) pa_nil)))))
     pss_nil)
  (pss_one (ps_ret (pe_dget hu (pv 1) (pv 0) (fun _ _ => rfl))))))), ?_⟩
    simp only [tSeq, tIfS, tNext, tRet, tRetN, tAsg, tDrop, tPar, tCons, tNil, tCB, tVar, tC, tOp, rI, rI0, rU, tTest, tB, tTup, tLst, gName, tIf, tAnd, tOr, tNot, tAndV, tOrV, tNotV, tUn, tCall, tChain, tSl, tNoPart, tPart, tBM, tBM0, tDGet, sDPut, tAugS, ipI, tAug, rIxT, rIxL, rMulK, rLenK, rLstK, tTruK, gTup, gCons, gNil, rEq, rNe, scal, tNever, rMulK, rGcd, L2.start, List.map, List.length, List.replicate, List.cons_append, List.nil_append, List.append_nil, List.set, List.set_cons_zero, List.set_cons_succ, List.getElem?_cons_succ, List.getElem?_cons_zero, Option.some.injEq, List.cons.injEq, V.int.injEq, V.str.injEq, V.bl.injEq, V.ref.injEq, and_true, true_and, exists_eq_left, exists_eq_left', exists_eq_right, exists_eq_right', exists_eq, exists_and_left, exists_and_right, and_assoc, exists_false, false_and, and_false, or_false, false_or, reduceCtorEq, Nat.reduceAdd, Nat.reduceSub, List.append_assoc, eq_self, if_true, if_false, Bool.false_eq_true, decide_eq_true_eq, List.length_cons, List.length_nil]
    have szL := sizeLine_eq
    obtain ⟨kvs, hd, _, _⟩ := led.ex
    have hl := led.l
    cases x with
    | word s =>
      obtain rfl := dv_word dx
      refine isi_str ⟨_, rfl, ?_⟩
      rw [if_pos rfl]
      exact k _ H (Kt.refl H) tb (by rw [movedV]; exact dx)
    | pt x =>
      obtain ⟨t, rfl, ha⟩ := dv_pt dx
      refine isi_no ha ⟨_, rfl, ?_⟩
      rw [if_neg (by simp)]
      refine ⟨t, rfl, _, ha, _, atI_nat (j := 0) rfl, no_int row_ok ⟨_, rfl, ?_⟩⟩
      rw [if_neg (by simp)]
      refine ⟨t, rfl, _, ha, _, atI_nat (j := 0) rfl, no_int set_ok ⟨_, rfl, ?_⟩⟩
      rw [if_neg (by simp)]
      have mx := hs x (by simp [supV])
      obtain ⟨u, gu, du⟩ := led.get mx (by rw [vlD] at dx; exact dx)
      exact ⟨u, gu, k u H (Kt.refl H) tb (by rw [movedV, vlD]; exact du)⟩
    | row l =>
      obtain ⟨t, ws, rfl, ha, dl⟩ := dv_row dx
      refine isi_no ha ⟨_, rfl, ?_⟩
      rw [if_neg (by simp)]
      refine ⟨t, rfl, _, ha, _, atI_nat (j := 0) rfl, is_row ⟨_, rfl, ?_⟩⟩
      rw [if_pos rfl]
      cases ox with
      | @row n _ _ h0 ol =>
      cases nf with
      | row nl =>
        rw [vw] at hw
        have wl := vws_len l
        unfold StX.tStar
        refine tlcT ?_
        simp only [tSeq, tIfS, tNext, tRet, tRetN, tAsg, tDrop, tPar, tCons, tNil, tCB, tVar, tC, tOp, rI, rI0, rU, tTest, tB, tTup, tLst, gName, tIf, tAnd, tOr, tNot, tAndV, tOrV, tNotV, tUn, tCall, tChain, tSl, tNoPart, tPart, tBM, tBM0, tDGet, sDPut, tAugS, ipI, tAug, rIxT, rIxL, rMulK, rLenK, rLstK, tTruK, gTup, gCons, gNil, rEq, rNe, scal, tNever, rMulK, rGcd, L2.start, List.map, List.length, List.replicate, List.cons_append, List.nil_append, List.append_nil, List.set, List.set_cons_zero, List.set_cons_succ, List.getElem?_cons_succ, List.getElem?_cons_zero, Option.some.injEq, List.cons.injEq, V.int.injEq, V.str.injEq, V.bl.injEq, V.ref.injEq, and_true, true_and, exists_eq_left, exists_eq_left', exists_eq_right, exists_eq_right', exists_eq, exists_and_left, exists_and_right, and_assoc, exists_false, false_and, and_false, or_false, false_or, reduceCtorEq, Nat.reduceAdd, Nat.reduceSub, List.append_assoc, eq_self, if_true, if_false, Bool.false_eq_true, decide_eq_true_eq, List.length_cons, List.length_nil]
        refine slRest ha fun t2 ht2 => ?_
        have kp2 := Kp.new (M := M0) (o := .tup ws) ht2
        refine lcTe (krT T) (l.map vlD) ((movedVs l olds news).map vlD) (tabs_new tb ht2) (by simp [movedVs_map]; omega) (by simp [movedVs_map]) (sqT_mk upd_same) (dvs_tk dl (Tk.of0 kp2)) (vls_tup _) (vls_tup _) (fun i z e y H2 e1 e2 dy k2 t2' Q' q => ?_) (fun D H2 vs hD k2 t2' hd2 ha2 => ?_)
        · rw [List.getElem?_map] at e1
          cases e3 : l[i]? with
          | none => rw [e3] at e1; cases e1
          | some z =>
            rw [e3] at e1; cases e1
            rw [List.getElem?_map, movedVs_map, List.getElem?_map, e3] at e2; cases e2
            have mz := List.mem_of_getElem? e3
            have wz := vw_mem mz
            have k02 : Kt M0 H H2 := (Kt.of kp2).trans k2
            simp only [tSeq, tIfS, tNext, tRet, tRetN, tAsg, tDrop, tPar, tCons, tNil, tCB, tVar, tC, tOp, rI, rI0, rU, tTest, tB, tTup, tLst, gName, tIf, tAnd, tOr, tNot, tAndV, tOrV, tNotV, tUn, tCall, tChain, tSl, tNoPart, tPart, tBM, tBM0, tDGet, sDPut, tAugS, ipI, tAug, rIxT, rIxL, rMulK, rLenK, rLstK, tTruK, gTup, gCons, gNil, rEq, rNe, scal, tNever, rMulK, rGcd, L2.start, List.map, List.length, List.replicate, List.cons_append, List.nil_append, List.append_nil, List.set, List.set_cons_zero, List.set_cons_succ, List.getElem?_cons_succ, List.getElem?_cons_zero, Option.some.injEq, List.cons.injEq, V.int.injEq, V.str.injEq, V.bl.injEq, V.ref.injEq, and_true, true_and, exists_eq_left, exists_eq_left', exists_eq_right, exists_eq_right', exists_eq, exists_and_left, exists_and_right, and_assoc, exists_false, false_and, and_false, or_false, false_or, reduceCtorEq, Nat.reduceAdd, Nat.reduceSub, List.append_assoc, eq_self, if_true, if_false, Bool.false_eq_true, decide_eq_true_eq, List.length_cons, List.length_nil]
            refine part_or dy (ol z mz) (fun s ez ey => ?_) ?_
            · subst ez
              exact q _ _ (Kt.refl _) t2' (show Dp K _ _ (vlD (.word s)) from dy)
            · exact ⟨y, d, z, olds, news, bo, bn, rfl, dy, ol z mz, nl z mz, Nat.le_trans (gN_succ n bo) hbo, by omega, led.tk (by rw [hd]; exact k02 _ _ hd (fun _ z => by cases z) fun z => z) k02.tk0, oo, on, Nat.le_trans (gN_succ n bn) hbn, hlo, fun p hp => hs p (by rw [supV]; exact (asc_mem (sups_ok ol) p).mpr (supVs_mem.mpr ⟨z, mz, hp⟩)), t2', fun y2 H4 k4 t4 d4 => q _ _ k4 t4 d4⟩
        · have vl : vs.length = l.length := by rw [dps_len ha2]; simp [movedVs_map]
          refine ⟨D, rfl, vs, Or.inr (sqL_mk hd2), ?_⟩
          refine ⟨by omega, fun p hp => k _ _ (((Kt.of kp2).trans k2).trans (Kt.new hp)) (tabs_new t2' hp) ?_⟩
          rw [movedV]
          exact dv_mkrow (ws := vs) (tpl upd_same) (dvs_tk ha2 (Tk.new hp))
    | set ps ms =>
      have dx' := dx
      obtain ⟨t, sp, sm, pw, mw, rfl, ha, _⟩ := dv_set dx
      refine isi_no ha ⟨_, rfl, ?_⟩
      rw [if_neg (by simp)]
      refine ⟨t, rfl, _, ha, _, atI_nat (j := 0) rfl, no_row ⟨_, rfl, ?_⟩⟩
      rw [if_neg (by simp)]
      refine ⟨t, rfl, _, ha, _, atI_nat (j := 0) rfl, eqD (.str _) (.str _) (str_shaped set_ok) (str_shaped set_ok) set_set ⟨_, rfl, ?_⟩⟩
      rw [if_pos rfl]
      have ox' := ox
      cases ox with
      | @set n _ _ _ okp okm =>
        rw [supV] at hs
        exact ⟨.ref t, d, ps, ms, olds, news, bo, bn, rfl, dx', ox', nf, hbo, hw, led, oo, on, hbn, hlo, hs, tb, k⟩
/-! ### all of them, by depth -/
theorem okLed (W : Ds K mg) (B : Tbs W base) : ∀ n : Nat, FnG P w K mg base (3 * n + 8) W.f_led W.fd_led P_led (sp_led K B.T n)
  | 0 => ok_led W B.T 0 fnG_false fnG_false
  | n + 1 => ok_led W B.T (n + 1) (okLed W B n) (ok_led_set W B n (ok_replaced W B.T n (okLed W B n)))
theorem okReplaced (W : Ds K mg) (B : Tbs W base) (n : Nat) : FnG P w K mg base (3 * n + 9) W.f_replaced W.fd_replaced P_replaced (sp_rep K B.T n) := ok_replaced W B.T n (okLed W B n)
end
end G
set_option Elab.async false
set_option linter.all false
set_option maxRecDepth 100000
set_option maxHeartbeats 2000000
/-! own errors whose __init__ begins with super().__init__(text) -/
namespace G
open PySem L2
open PySem.W (kxs_mw KxsFacts)
open NdefX

section
variable {prog : Program} {w : World} {A : Around} {E : Value → Shared → Prop} {h : Heap} {g : Array GenState} {d : Drawn} {t : Nat} {os : OsState}
variable {nm q : Str} {C N : Addr} {bs bm bmB : List Value} {hdct : Bool} {sn : List Str} {sub : List Value} {ab : Bool} {col : Option Bool} {dd : Option Addr} {k0 k1 k2 k3 k5 : Option Value} {B newId i : String}
/-- what super().__init__ names, called -/
theorem mw_call {u e t0 : Addr} {rest : List Value} {Q : Value → Shared → Prop} (FB : ExcBaseFacts B newId i bmB) (hC : h.get? C = some (excClassObj nm q C N bs bm hdct sn sub ab col dd k0 k1 k2 k3 k5 newId))
    (he : h.get? e = some (HandSPX.excO C t0)) (hu : h.get? u = some (kxs_mw i e)) (hz : rest.length ≤ sizeLine)
    (done : ∀ h' t1, (∀ b o, b ≠ e → h.get? b = some o → h'.get? b = some o) → h'.get? e = some (HandSPX.excO C t1) → Q .none ⟨h', g, d, t, os⟩) : wpAny (model prog w) A (call (.ref u) rest) Q E ⟨h, g, d, t, os⟩ := by
  apply wpAny_call; apply codeAny_of_tree
  change wpAny _ A.in1 (callAny (.ref u) { pos := rest, kw := [] }) _ _ _; simp only [callAny]
  apply wpAny_bind; refine wpAny_load hu (?_ : _)
  have e1 : (Value.type "method-wrapper" == Value.type "method" || Value.type "method-wrapper" == Value.type "builtin_function_or_method" || Value.type "method-wrapper" == Value.type "method-wrapper") = true := by decide
  simp only [kxs_mw, e1, if_true]
  refine W.KFB.if_so (by decide : _) (?_ : _)
  apply wpAny_bind; refine PySem.W.check_bound_init FB.toExcCallFacts hC he (rfl : _) (?_ : _)
  refine (wpAny_pure ?_ : _)
  refine And.intro (plainId_quiet FB.init.plain _) (codeAny_builtin FB.initEntry ?_)
  exact PySem.W.exc_init_tree (cls := .ref C) (t0 := t0) (dv := none) (c2 := .none) (c3 := .none) (b4 := .bool false) he hz fun h' k x _ => done h' _ k x
end
/-- what the written part says of a class whose __init__ says super().__init__ -/
structure SupC (K : PySem.W.Frag) (C : Addr) (B i : String) : Prop where
  sup : PySem.W.ks_superIn K C C "__init__" = some (some (.builtin i))
  sub : PySem.W.subIn K (.ref C) (.type B) = some true
  own : PySem.W.mroIn K C (.ref C) = some true
  opq : PySem.W.nsIn K PySem.cStatics "thirdparty.any" = some none
/-- .. and of the method f itself: its record, its code's file, its cell -/
structure IniF (P : Program) (K : PySem.W.Frag) (C f cda cc : Addr) (fd : FuncData) (me : Str) : Prop where
  look : ∃ (oc : Value) (od : Option Addr) (osl : Array (Option Value)), K.lookup f = some ⟨oc, od, .func fd, osl⟩
  head : ∃ ar : Arg, (fd.params.posonlyargs ++ fd.params.args).head? = some ar ∧ ar.arg = me
  code : ∃ (ccl : Value) (cdd : Option Addr) (vs : Array Value) (ccs : Array (Option Value)) (file : Str) (tf : Tok), K.lookup cda = some ⟨ccl, cdd, .fields vs, ccs⟩ ∧ vs[2]? = some (.str file tf) ∧ ((P.main.file : Str) == file) = true
  cell : ∃ (cl : Value) (cld : Option Addr) (csl : Array (Option Value)), K.lookup cc = some ⟨cl, cld, .cell (some (.ref C)), csl⟩
  top : (P.main.scope.names.lookup ("super" : Str)).isSome = false
section
variable {X : Cx} {pins : List (Addr × Obj)} {σ : L2.St} {H : Hp} {s : Shared}
theorem super_init {C f cda cc a : Addr} {fd : FuncData} {self msg : Str} {kk : Nat} {p0 p1 p2 p3 p4 : Pos} {body : List Stmt} (I : Inv X [] σ H s) (T : OexC X.K C) (S : SupC X.K C "ValueError" "ValueError.__init__") (M : IniF X.prog X.K C f cda cc fd self)
    (hks : X.env.kindOf "super" = some .globalImplicit) (hms : X.mg "super" = none) (hkc : X.env.kindOf "__class__" = some .free) (hcl : X.env.cells.lookup ("__class__" : Str) = some cc) (hfu : X.env.func = some f) (hco : X.env.code = .ref cda)
    (hka : X.env.kindOf self = some .local) (hN : X.N[0]? = some self) (hσ : σ[0]? = some (some (.ref a))) (ha : H a = some (exo a C none)) {pl : Sem Bool}
    (he : eval (.Call (.Attribute (.Call (.Name "super" p0) [] [] p1) "__init__" p2) [.Constant (.str msg) kk p3] [] p4) X.env = (do
      let ov ← attributeBase (.Call (.Name "super" p0) [] [] p1) "__init__" X.env (eval (.Call (.Name "super" p0) [] [] p1) X.env)
      standAt p2.atName
      let (f, first) ← holding [ov] (getMethod ov "__init__" pl)
      callWith p4 f first (backTo p4 (starEach [.Constant (.str msg) kk p3] X.env)) []))
    {Q : Value → Shared → Prop} (q : ∀ s', Inv X [] σ H s' → Q .none s') :
    PySem.wpAt (model X.prog X.w) X.A (.func body X.env) (eval (.Call (.Attribute (.Call (.Name "super" p0) [] [] p1) "__init__" p2) [.Constant (.str msg) kk p3] [] p4) X.env) Q X.xe s := by
  obtain ⟨oc, od, osl, lf⟩ := M.look
  obtain ⟨ar, hhead, rfl⟩ := M.head
  obtain ⟨ccl, cdd, vs, ccs, file, tf, lcode, hvs, hfile⟩ := M.code
  obtain ⟨cl, cld, csl, lcell⟩ := M.cell
  obtain ⟨nm, qn, N, bs, bm, sn, sub, ab, col, dd, k0, k1, k2, k3, k5, hC, hbm⟩ := T.cls
  have hcd : PySem.W.clsIn X.K C = some { name := nm, bases := bs, mro := .ref C :: bm, ns := N, qualname := qn, hasDict := true, slotNames := sn, subclasses := sub, abstract := ab, collection := col, hasDel := false } := by unfold PySem.W.clsIn; rw [hC] <;> rfl
  have XK := I.kIn
  obtain ⟨m, hns, hl⟩ := I.loc
  obtain ⟨u, ru, lk⟩ := hl 0 ar.arg (.ref a) hN hσ (Or.inl hka)
  obtain rfl : u = Value.ref a := ru
  have hm : m ar.arg = some (.ref a) := by
    rcases lk with ⟨_, z⟩ | ⟨hk, _⟩
    · exact z
    · rcases hk with hk | hk <;> (rw [hka] at hk; cases hk)
  obtain ⟨t1, hox⟩ := exo_at I.hok ha
  have inst : PySem.W.InstAt s.heap a { cls := .ref C, dict := none, data := .fields #[.ref t1, .none, .none, .none, .bool false, .none] } C none := ⟨hox, rfl, rfl, trivial⟩
  have ne := PySem.W.ks_ne XK inst hcd
  obtain ⟨mb, b1, b2⟩ := I.mod.blt
  refine ks_wpAt_MethodCall (he := he) ?_
  refine ks_wpAt_super_base hks hkc (by decide) hfu (XK _ _ lf) rfl hhead hco (XK _ _ lcode) rfl hvs hfile M.top ?_
  refine PySem.W.ks_loadName_global I.ok.kind hks (Calls.loadGlobal_builtin (by rw [I.ok.glob]; exact I.mod.glob.keeps I.bk) hms (by rw [I.ok.blt]; exact b1.keeps I.bk) ((b2 _ (by decide)).trans (by decide +kernel : bootBuiltins "super" = some (.type "super"))) ⟨rfl, ?_⟩)
  refine wpAny_loadName_free I.ok.kind hkc hcl ⟨_, XK _ _ lcell, rfl⟩ ?_
  refine wpAny_loadName_local I.ok.kind hka hns hm ?_
  have hD2 : ∃ oD, s.heap.get? C = some oD ∧ ∃ cd, oD.data = .cls cd := ⟨_, XK _ _ hC, _, rfl⟩
  obtain ⟨oD, e1, cdD, e2⟩ := hD2
  obtain ⟨hp, gg, dr, tk, os⟩ := s
  refine ks_wpAny_isType_cls e1 e2 ⟨rfl, ?_⟩
  refine ks_wpAny_call_super e1 e2 hox rfl (fun c z => by cases z) (PySem.W.looks_mroIn XK S.own) (fun h1 hso k1 => ?_)
  have I1 : Inv X [] σ H ⟨h1, gg, dr, tk, os⟩ := I.kept (t' := tk) k1
  have X1 := I1.kIn
  have inst1 : PySem.W.InstAt h1 a { cls := .ref C, dict := none, data := .fields #[.ref t1, .none, .none, .none, .bool false, .none] } C none := ⟨k1 _ _ hox, rfl, rfl, trivial⟩
  have hsup := S.sup
  unfold PySem.W.ks_superIn at hsup
  rw [hcd] at hsup
  refine PySem.W.kxs_getMethod PySem.W.kxs_ValueError hso (PySem.W.looks_opaque X1 S.opq) (l₀ := .ref C :: bm) (fun A Q E s k q => wpAny_bind ((PySem.W.looks_clsIn X1 hcd) A _ E s k (wpAny_pure q))) rfl X1 hsup (inst1.type.andThen (PySem.W.looks_subIn X1 S.sub)) ne (by decide) ?_
  have I2 : Inv X [] σ H ⟨h1.push (kxs_mw "ValueError.__init__" a), gg, dr, tk + 1, os⟩ := I1.kept (t' := tk + 1) fun b o e => Heap.get?_push_of_some _ e
  have I3 : Inv X [(h1.objs.size, kxs_mw "ValueError.__init__" a)] σ H ⟨h1.push (kxs_mw "ValueError.__init__" a), gg, dr, tk + 1, os⟩ := I2.pins_of fun p hp => by
    rw [List.mem_singleton] at hp
    subst hp
    exact ⟨Heap.get?_push_at rfl rfl, I1.hok.fresh (Nat.le_refl _), Nat.ne_of_gt I1.lt, I1.nofs (Nat.le_refl _), fun v z => by cases z⟩
  show wpAny _ _ (callWith p4 (.ref h1.objs.size) [] (backTo p4 (starEach [.Constant (.str msg) kk p3] X.env)) []) _ _ _
  have args : PA X [.Constant (.str msg) kk p3] (tCons (tC (.str msg)) tNil) := pa_cons pe_str pa_nil
  refine PySem.W.kxs_callWith (i := "ValueError.__init__") (x := a) (u := h1.objs.size) rfl (Calls.evalArgs_plain (thn (args.run p4 _ _ σ H (fun vs H' => vs = [.str msg] ∧ H' = H) I3 ⟨rfl, rfl⟩) fun us s1 ⟨vs, H4, I4, r4, e4⟩ => ?_))
  obtain ⟨rfl, rfl⟩ := e4
  have hu4 := (I4.pin _ (List.mem_append_right _ (List.mem_singleton_self _))).1
  refine ⟨hu4, ?_⟩
  obtain ⟨t4, ho4⟩ := exo_at I4.hok ha
  obtain ⟨hp4, g4, d4, k4, o4⟩ := s1
  have hz : us.length ≤ sizeLine := by rw [← Paired.length r4, sizeLine_eq]; show 1 ≤ 16777216; decide
  refine mw_call F.excBase_ValueError (I4.kIn _ _ hC) ho4 hu4 hz fun h' t5 kk5 x5 => ?_
  have I5 : Inv X [] σ H4 ⟨hp4, g4, d4, k4, o4⟩ := I4.pins_of fun p hp => by cases hp
  have J := I5.write (t' := k4) (x := a) (e := a) (o := exo a C none) (by rw [ha]; exact True.intro) (.inl rfl) kk5 ⟨_, x5⟩ (exo_ok x5)
  have eu : upd H4 a (exo a C none) = H4 := by
    funext b
    by_cases hb : b = a
    · rw [hb, upd_same, ha]
    · rw [upd_ne hb]
  rw [eu] at J
  exact q _ J
end
/-! ### such a method's promise -/
section
variable {P : Program} {w : World} {K : PySem.W.Frag} {mg : Str → Option Value} {base : Heap} {CX : CXT} {N ps : List Str} {me : Str} {k : Nat} {sp : Sp}
/-- the method of the class C at f, of these words -/
structure Ini (P : Program) (K : PySem.W.Frag) (C f cc : Addr) (F : NF) (fd : FuncData) (me : Str) : Prop where
  fds : ∃ kV doc pm ct an, fd = PySem.W.fnX F.name F.qual F.params F.body F.scope F.cl .none kV doc pm an (.ref F.c) ct
  cl : F.cl = [(("__class__" : Str), cc)]
  code : PySem.W.codeIn K (.ref F.c) F.qual = true
  m : IniF P K C f F.c cc fd me
theorem ini_ok {C f cc : Addr} {F : NF} {fd : FuncData} {msg : Str} {kk : Nat} {p0 p1 p2 p3 p4 p5 : Pos} {rest : List Stmt} (M : Ini P K C f cc F fd me) (S : NScope N (me :: ps) ["__class__"] F.scope) (T : OexC K C) (SC : SupC K C "ValueError" "ValueError.__init__")
    (hbody : F.body = .Expr (.Call (.Attribute (.Call (.Name "super" p0) [] [] p1) "__init__" p2) [.Constant (.str msg) kk p3] [] p4) p5 :: rest) (hs : F.scope.names.lookup ("super" : Str) = some .globalImplicit) (hms : mg "super" = none)
    (len : ∀ vs H Q E, sp vs H Q E → vs.length = (me :: ps).length)
    (hpl : ∀ L : Addr, (∃ pl : Sem Bool, eval (.Call (.Attribute (.Call (.Name "super" p0) [] [] p1) "__init__" p2) [.Constant (.str msg) kk p3] [] p4) (envF F f L) = (do
      let ov ← attributeBase (.Call (.Name "super" p0) [] [] p1) "__init__" (envF F f L) (eval (.Call (.Name "super" p0) [] [] p1) (envF F f L))
      standAt p2.atName
      let (f1, first) ← holding [ov] (getMethod ov "__init__" pl)
      callWith p4 f1 first (backTo p4 (starEach [.Constant (.str msg) kk p3] (envF F f L))) [])) ∧ interactive (envF F f L) = false ∧
      swapsWith (.Call (.Attribute (.Call (.Name "super" p0) [] [] p1) "__init__" p2) [.Constant (.str msg) kk p3] [] p4) none p5.line (envF F f L) = pure false)
    (hq : ∀ (A : Around) (outer : List Env) (s : Shared) (H : Hp) (vs : List V) (Q : VK) (E : XK), Room k (A.deeper (envF F f s.heap.objs.size)) → sp vs H Q E →
      (∃ a vr, vs = .ref a :: vr ∧ H a = some (exo a C none)) ∧ ∃ t, PSs (ncx CX P w K mg base N F f A outer s H E) rest t ∧ t { nx := fun _ H' => Q .non H', rt := Q } (startF N vs [none]) H) :
    FnOk P w K mg base CX (k + 1) f fd (me :: ps) sp := by
  refine ⟨len, fun A outer s H args us vs Q E hr e0 bind r hsp => ?_⟩
  obtain ⟨kV, doc, pm, ct, an, rfl⟩ := M.fds
  obtain ⟨oc, od, osl, look⟩ := M.m.look
  have up : ∀ b o, base.get? b = some o → s.heap.get? b = some o := fun b o e => (e0.bs b o e).1
  have KX : K.In s.heap := e0.mod.kin.keeps up
  have hl := len _ _ _ _ hsp
  obtain ⟨cl, cld, csl, lcell⟩ := M.m.cell
  have hcc := e0.bs _ _ (e0.mod.kin _ _ lcell)
  have cell1 : ∀ y c, F.cl.lookup y = some c → c = cc ∧ y = "__class__" := fun y c e => by
    rw [M.cl] at e
    by_cases z : y = ("__class__" : Str)
    · subst z
      simp [List.lookup] at e
      exact ⟨e.symm, rfl⟩
    · have z' : (y == ("__class__" : Str)) = false := by simpa using z
      simp [List.lookup, z'] at e
  have cell2 : F.cl.lookup ("__class__" : Str) = some cc := by rw [M.cl]; simp [List.lookup]
  have cells : CellsAt F.cl ["__class__"] [none] s.heap H := {
    len := rfl
    all := fun y c e => by
      obtain ⟨rfl, _⟩ := cell1 y c e
      exact ⟨hcc.2, _, _, hcc.1, rfl⟩
    inj := fun x y c e1 e2 => (cell1 x c e1).2.trans (cell1 y c e2).2.symm
    has := fun i y hi => by
      cases i with
      | zero =>
        simp at hi
        subst hi
        exact ⟨cc, cell2, fun v z => by simp at z⟩
      | succ i => simp at hi }
  refine ks_codeAny_call_defAt (body := F.body) hr.depth (KX _ _ look) rfl (e0.mod.nolimit.keeps up) (PySem.W.codeRec_of KX M.code) rfl bind S.nocell (fun y hy => S.par y.1 (List.of_mem_zip hy).1) (fun h₁ hns kp => ?_) S.co S.gen S.kind
  obtain ⟨⟨a, vr, rfl, ha⟩, t, ht, want⟩ := hq A outer s H vs Q E (hr.deeper _) hsp
  have I : Inv (ncx CX P w K mg base N F f A outer s H E) [] (startF N (.ref a :: vr) [none]) H { s with heap := h₁, toks := s.toks + ((me :: ps).zip us).length } := inv_startN S hr.hd e0 hl r cells hns kp
  have hN0 : N[0]? = some me := by
    have q := congrArg (fun l => l[0]?) S.pre
    simp only [List.length_cons] at q
    rw [List.getElem?_take_of_lt (by omega)] at q
    simpa using q
  rw [hbody]
  obtain ⟨⟨pl, he⟩, hin, hsw⟩ := hpl s.heap.objs.size
  have step := super_init (X := ncx CX P w K mg base N F f A outer s H E) (body := F.body) (pl := pl) (p0 := p0) (p1 := p1) (p2 := p2) (p3 := p3) (p4 := p4) (msg := msg) (kk := kk) I T SC M.m hs hms (S.frk _ (by simp)) cell2 rfl rfl (S.par _ (by simp)) hN0 rfl ha he
    (Q := fun _ s' => Inv (ncx CX P w K mg base N F f A outer s H E) [] (startF N (.ref a :: vr) [none]) H s') fun s' J => J
  rw [hbody] at step
  refine ks_wpAt_execs_cons (ks_wpAt_Expr_any (ks_wpAt_mono step (fun v s' J => ?_) fun e s' z => z) hin hsw)
  refine wpAt_of_wpAny (wpAny_mono (ht.run [] _ _ H _ J want) (fun fl s2 z => ?_) fun e s2 z => z)
  have fin : ∀ {σ' : L2.St} {H' : Hp} {v : V} {u : Value}, Inv (ncx CX P w K mg base N F f A outer s H E) [] σ' H' s2 → RelV v u → Q v H' → CE outer P w H s Q u s2 := fun {σ' H' v u} J rv q => ⟨v, H', J.os, J.bare, J.base, J.hok, rv, q⟩
  cases fl with
  | ret u =>
    obtain ⟨v, σ', H', J, rv, q⟩ := z
    exact fin J rv q
  | next =>
    obtain ⟨σ', H', J, q⟩ := z
    exact fin (v := V.non) (u := Value.none) J rfl q
  | brk =>
    obtain ⟨_, _, _, q⟩ := z
    exact False.elim q
  | cont =>
    obtain ⟨_, _, _, q⟩ := z
    exact False.elim q
end
end G
set_option Elab.async false
set_option linter.all false
set_option maxRecDepth 100000
set_option maxHeartbeats 2000000
/-! defs that may raise, promised only where no repr is under way; an own error without arguments -/
namespace G
open PySem L2 PySem.Spec PyProof.Rows
/-- as FnG, for a def that may raise -/
structure FnGX (P : Program) (w : World) (K : PySem.W.Frag) (mg : Str → Option Value) (base : Heap) (k : Nat) (f : Addr) (fd : FuncData) (ps : List Str) (sp : Sp) : Prop where
  len : ∀ vs H Q E, sp vs H Q E → vs.length = ps.length
  run : ∀ (R : Around) (up : List Env) (z : Shared) (H : Hp) (gs : Args) (ys : List Value) (vs : List V) (Q : VK) (E : XK), NoRepr R → Room k R →
    Env0 P w K mg base R up z H → BindsTo z fd gs (ps.zip ys) → Vals vs ys → sp vs H Q E → codeAny (model P w) R (.call (.ref f) gs) (CR (L2.CX P w) up P w H z Q E) z
section
variable {P : Program} {w : World} {K : PySem.W.Frag} {mg : Str → Option Value} {base : Heap}
theorem FnGX.of {k : Nat} {f : Addr} {fd : FuncData} {ps : List Str} {sp : Sp} (F : FnOk P w K mg base (L2.CX P w) k f fd ps sp) : FnGX P w K mg base k f fd ps sp :=
  ⟨F.len, fun R up z H gs ys vs Q E _ => F.run R up z H gs ys vs Q E⟩
/-- such a def by its body -/
theorem fnGX_ok {x qual : Str} {st : Stmt} {f : Addr} {fd : FuncData} {N ps : List Str} {k : Nat} {sp : Sp} (F : Fun K x qual st f fd) (S : FnScope N ps (defScope st)) (len : ∀ vs H Q E, sp vs H Q E → vs.length = ps.length)
    (body : ∀ (cd : Value) (R : Around) (up : List Env) (z : Shared) (H : Hp) (vs : List V) (Q : VK) (E : XK), NoRepr (R.deeper (envOfC qual (defScope st) z.heap.objs.size f cd)) →
      Room k (R.deeper (envOfC qual (defScope st) z.heap.objs.size f cd)) → sp vs H Q E →
      ∃ t, PSs (cxOf (L2.CX P w) P w K mg base N qual (defScope st) f cd R up z H E) (defBody st) t ∧ t { nx := fun _ H' => Q .non H', rt := Q } (L2.start N vs) H) : FnGX P w K mg base (k + 1) f fd ps sp := by
  obtain ⟨oc, od, kV, doc, pm, an, cd, ct, osl, rfl, look, code⟩ := F.ex
  constructor
  · exact len
  intro R up z H gs ys vs Q E nr room e0 bind rel want
  have many := len _ _ _ _ want
  have stays : ∀ b o, base.get? b = some o → z.heap.get? b = some o := fun b o e => (e0.bs b o e).1
  have inK : K.In z.heap := e0.mod.kin.keeps stays
  have places : ∀ y ∈ ps.zip ys, (defScope st).names.lookup y.1 = some .local ∨
      ((defScope st).names.lookup y.1 = some .cell ∧ ((cellsFrom (z.heap.objs.size + 1) (defScope st).names []).lookup y.1).isSome = true) := by
    rintro ⟨n, v⟩ hy
    rcases S.par n (List.of_mem_zip hy).1 with q | q
    · exact Or.inl q
    · exact Or.inr ⟨q, PySem.W.cellsFrom_some _ _ _ (Or.inl q)⟩
  refine codeAny_call_function room.depth (inK _ _ look) rfl S.co S.gen rfl (PySem.W.codeRec_of inK code) (bind _ _ _ _ ?_)
  refine wpAny_newFunctionEnv_cells S.kind places fun env he z1 y => ?_
  subst he
  refine ⟨(e0.mod.nolimit.keeps stays).keeps y.toInCall.keep, codeAny_func ?_⟩
  obtain ⟨t, ht, done⟩ := body cd R up z H vs Q E nr (room.deeper _) want
  have start0 : Inv (cxOf (L2.CX P w) P w K mg base N qual (defScope st) f cd R up z H E) [] (L2.start N vs) H z1 := inv_start S room.hd e0 many rel y
  refine wpAny_mono (ht.run [] z1 (L2.start N vs) H _ start0 done) (fun fl z2 hz => ?_) fun e z2 hz => hz
  cases fl with
  | ret u =>
    obtain ⟨v, σ', H', J, rv, q⟩ := hz
    exact ⟨v, H', J.os, J.bare, J.base, J.hok, rv, q⟩
  | next =>
    obtain ⟨σ', H', J, q⟩ := hz
    exact ⟨V.non, H', J.os, J.bare, J.base, J.hok, rfl, q⟩
  | brk =>
    obtain ⟨_, _, _, q⟩ := hz
    cases q
  | cont =>
    obtain ⟨_, _, _, q⟩ := hz
    cases q
end
section
variable {X : Cx} {k : Nat} {f : Addr} {fd : FuncData} {ps : List Str} {sp : Sp} {x : Str} {p pos : Pos} {e : Expr} {es : List Expr} {t : TA}
/-- f(..), f such a def; E: what it may raise, at the slots -/
theorem peGX_callS {E : L2.St → XK} (F : FnGX X.prog X.w X.K X.mg X.base k f fd ps sp) (nr : NoRepr X.A) (room : Room k X.A) (hg : Gl X x) (hm : X.mg x = some (.ref f)) (hk : PySem.W.keepIn X.K (.ref f) = true) (hb : Binds X.K fd ps [])
    (hx : ∀ σ, PassesAt (L2.CX X.prog X.w) X σ (E σ)) (ha : PA X (e :: es) t) (hdb : (x == ("__debug__" : Str)) = false := by decide) (he : starEach (e :: es) X.env = (false, eval e X.env) :: starEach es X.env := by rfl) (hpl : (backTo pos (starEach es X.env)).any (·.1) = false := by rfl) :
    PE X (.Call (.Name x p) (e :: es) [] pos) (tCallS sp E t) := by
  constructor
  intro pins z σ H Q I h
  refine wpAny_Call_Name_kw (ld_glob I hg hm ?_ hdb)
  refine PySem.W.callWith_K (h₀ := X.base) I.ok.mod.kin hk (thn (ha.run pos pins z σ H _ I h) fun us z1 ⟨vs, H1, I1, r, q⟩ => ⟨I1.kIn, ?_⟩) he hpl
  have many : us.length = ps.length := by rw [← r.length]; exact F.len _ _ _ _ q
  have bind := hb z1 us I1.kIn (by rw [List.append_nil]; exact many)
  rw [List.append_nil] at bind
  refine wpAny_call (codeAny_mono (F.run X.A X.stack z1 H1 ⟨us, []⟩ us vs Q (E σ) nr room I1.env0 bind r q) fun res z2 hz => ?_)
  cases res with
  | error e => exact hx σ pins H1 z1 e z2 I1 hz
  | ok fl =>
    cases fl with
    | ret u => exact I1.after hz
    | next => exact False.elim hz
    | brk => exact False.elim hz
    | cont => exact False.elim hz
theorem passes_none {X : Cx} (σ : L2.St) : PassesAt (L2.CX X.prog X.w) X σ E0 := fun _ _ _ _ _ _ h => by
  obtain ⟨_, _, _, _, _, _, _, _, _, _, _, _, z⟩ := h
  exact z.elim
/-- .. where it raises nothing -/
theorem peGX_call (F : FnGX X.prog X.w X.K X.mg X.base k f fd ps sp) (nr : NoRepr X.A) (room : Room k X.A) (hg : Gl X x) (hm : X.mg x = some (.ref f)) (hk : PySem.W.keepIn X.K (.ref f) = true) (hb : Binds X.K fd ps [])
    (ha : PA X (e :: es) t) (hdb : (x == ("__debug__" : Str)) = false := by decide) (he : starEach (e :: es) X.env = (false, eval e X.env) :: starEach es X.env := by rfl) (hpl : (backTo pos (starEach es X.env)).any (·.1) = false := by rfl) :
    PE X (.Call (.Name x p) (e :: es) [] pos) (tCall sp [] E0 t) := by
  constructor
  intro pins z σ H Q I h
  refine (peGX_callS (E := fun _ => E0) F nr room hg hm hk hb passes_none ha hdb he hpl).run pins z σ H Q I ?_
  simpa only [tCall, tCallS, List.append_nil] using h
/-- C(), C an own error class whose __init__ takes nothing more -/
theorem pmk_oex0 {C fI : Addr} (T : OexC X.K C) (iC : PySem.W.findIn X.K (.ref C) "__init__" = some (some (.ref fI))) (tI : PySem.W.typeIn X.K (.ref fI) = some (.type "function"))
    (F1 : FnOk X.prog X.w X.K X.mg X.base CX0 k fI fd ps sp) (room : Room (k + 1) X.A) (hb : Binds X.K fd ps []) (hg : Gl X x) (hm : X.mg x = some (.ref C)) (hdb : (x == ("__debug__" : Str)) = false := by decide) :
    PMk X (.Call (.Name x p) [] [] pos) (tMkO C sp [] tNil) := by
  intro pins z σ H Q I want
  obtain ⟨nm, q, N, bs, bm, sn, sub, ab, col, dd, k0, k1, k2, k3, k5, hC, hbm⟩ := T.cls
  refine wpAny_Call_Name_kw (ld_glob I hg hm ?_ hdb)
  refine PySem.W.callWith_K0 I.kIn T.kC ?_
  show wpAny _ _ (call (.ref C) []) _ _ _
  obtain ⟨small, each⟩ : _ ∧ _ := want
  obtain ⟨hp, g, dr, tk, os⟩ := z
  have up : hp.objs.size ≤ hp.objs.size + 1 := Nat.le_succ _
  have fresh : H (hp.objs.size + 1) = none := I.hok.fresh up
  have now := each (hp.objs.size + 1) fresh
  rw [List.append_nil] at now
  have stay : ∀ b o, hp.get? b = some o → ((hp.push (PySem.W.kdv_tup [])).push (PySem.HandSPX.excO C hp.objs.size)).get? b = some o := fun b o e => Heap.get?_push_of_some _ (Heap.get?_push_of_some _ e)
  have there : ((hp.push (PySem.W.kdv_tup [])).push (PySem.HandSPX.excO C hp.objs.size)).get? (hp.objs.size + 1) = some (PySem.HandSPX.excO C hp.objs.size) := by heap_get
  have I2 : Inv X pins σ (upd H (hp.objs.size + 1) (exo (hp.objs.size + 1) C none)) ⟨(hp.push (PySem.W.kdv_tup [])).push (PySem.HandSPX.excO C hp.objs.size), g, dr, tk, os⟩ := I.laid (t' := tk) stay up (exo_ok there)
  have one : Vals [V.ref (hp.objs.size + 1)] [Value.ref (hp.objs.size + 1)] := .cons rfl .nil
  have bind := hb ⟨(hp.push (PySem.W.kdv_tup [])).push (PySem.HandSPX.excO C hp.objs.size), g, dr, tk, os⟩ [Value.ref (hp.objs.size + 1)] I2.kIn (by
    have e := F1.len _ _ _ _ now
    rw [List.append_nil, ← e]; rfl)
  rw [List.append_nil] at bind
  refine wpAny_call (PySem.HandSPX.call_own F.excBase_ValueError (fun Y => PySem.HandSPX.refsVE_contains Y bm hbm) (I.kIn _ _ hC) (PySem.W.looks_findIn I.kIn iC) (fun self => PySem.W.bind_fn I.kIn self tI) (rest := []) (Nat.zero_le _)
    (codeAny_mono (F1.run _ X.stack _ _ ⟨[Value.ref (hp.objs.size + 1)], []⟩ [Value.ref (hp.objs.size + 1)] _ _ (fun _ _ _ => False) (room.make C [] []) (I2.env0.make C [] []) bind one now) fun r z' back => ?_))
  cases r with
  | error er => exact pass0 pins σ _ _ er z' I2 back
  | ok fl =>
    cases fl with
    | ret u =>
      obtain ⟨v, H2, os2, bare2, un2, hok2, rv, ev, d, fs, ea, ed, hd1, q2⟩ := back
      subst ev
      obtain ⟨h2, g2, d2, t2, os'⟩ := z'
      exact ⟨rv, mk_end (raises_own T.exC T.tyC) I up stay un2 hok2 os2 bare2 ea ed hd1 q2⟩
    | next => exact False.elim back
    | brk => exact False.elim back
    | cont => exact False.elim back
end
end G
set_option Elab.async false
set_option linter.all false
set_option maxRecDepth 100000
set_option maxHeartbeats 2000000
/-! the law's own call where no repr is under way and tables of code objects are written: an end for FnG -/
namespace G
open PySem PySem.Spec PyProof.Rows L2 LamX
section
variable {P : Program} {w : World} {K : PySem.W.Frag} {mg mb : Str → Option Value}
/-- what the head knows at its heap: the tables are there, empty, and not in K -/
structure TabsAt (K : PySem.W.Frag) (h : Heap) (cs : List (Addr × Addr)) : Prop where
  mt : ∀ p ∈ cs, h.get? p.2 = some { cls := .none, data := .fields #[] }
  out : ∀ p ∈ cs, K.lookup p.2 = none
  hd : ∀ p ∈ cs, PySem.W.CodeHd h p.1 p.2
/-- H has the tables, the script known to its object, or nothing -/
def OnlyT (cs : List (Addr × Addr)) (l : Addr) (us : List Value) (ns : List Int) (H : Hp) (b : Addr) : Prop :=
  H b = none ∨ ((∃ p ∈ cs, p.2 = b) ∧ H b = some (.tbl #[])) ∨ (b = l ∧ H b = some (.frz { cls := .type "list", data := .seq us.toArray } (.lst (ns.map V.int))))
theorem enterGT {k : Nat} {f l : Addr} {cs : List (Addr × Addr)} {fd : FuncData} {x : Str} {sp : Sp} {z : Shared} {us : List Value} {ns : List Int}
    (kin : K.In z.heap) (gl : z.heap.Ns mainGlobals mg) (bl : z.heap.Ns builtinsNs mb) (bb : ∀ x : Str, x ≠ "__name__" → mb x = bootBuiltins x) (nl : z.heap.NoLimit) (ng : z.gens = #[]) (tA : TabsAt K z.heap cs)
    (hbm : ∃ (bm : Addr) (ob : Obj), mg "__builtins__" = some (.ref bm) ∧ bm ≠ builtinsNs ∧ z.heap.get? bm = some ob ∧ ob.cls = .type "module" ∧ ob.dict = some builtinsNs ∧ ob.data = .plain)
    (hl : z.heap.get? l = some { cls := .type "list", data := .seq us.toArray }) (hi : IntsAre us ns) (many : ns.length ≤ sizeLine) (room : Room k callerA)
    (F : ∀ base : Heap, K.In base → base.Ns mainGlobals mg → (∀ p ∈ cs, TabB base mg p.1 p.2) → FnG P w K mg base k f fd [x] sp) (bind : ∀ (s : Shared) (u : Value), BindsTo s fd ⟨[u], []⟩ [(x, u)])
    (want : ∀ H : Hp, (∀ p ∈ cs, H p.2 = some (.tbl #[])) → SqL K H l (ns.map V.int) → sp [.ref l] H (fun v _ => v = .bl true) E0) :
    codeAny (model P w) callerA (.call (.ref f) ⟨[.ref l], []⟩) (fun r z' => r = .ok (.ret (.bool true)) ∧ OldK z.heap z'.heap ∧ z'.os = z.os ∧ AllBare z'.gens) z := by
  have rel := vals_ints hi
  have size := hi.length
  have nlT : ∀ p ∈ cs, p.2 ≠ l := fun p hp e => by
    have := tA.mt p hp
    rw [e, hl] at this
    exact nomatch (congrArg Obj.data (Option.some.inj this) : Data.seq us.toArray _ = Data.fields #[])
  have go : ∀ H : Hp, (∀ p ∈ cs, H p.2 = some (.tbl #[])) → (∀ b, OnlyT cs l us ns H b) → SqL K H l (ns.map V.int) → HOk P w H z.heap → (H l ≠ none → K.lookup l = none) →
      codeAny (model P w) callerA (.call (.ref f) ⟨[.ref l], []⟩) (fun r z' => r = .ok (.ret (.bool true)) ∧ OldK z.heap z'.heap ∧ z'.os = z.os ∧ AllBare z'.gens) z := by
    intro H tabs all seq held out
    have free : ∀ {b : Addr} {o : Obj}, z.heap.get? b = some o → o.data ≠ .fields #[] → (∀ vs n, o.data ≠ .seq vs n) → H b = none := by
      intro b o e d1 d2
      rcases all b with q | ⟨⟨p, hp, rfl⟩, _⟩ | ⟨rfl, _⟩
      · exact q
      · rw [tA.mt p hp] at e; cases e; exact absurd rfl d1
      · rw [hl] at e; cases e; exact absurd rfl (d2 _ _)
    have seqD : ∀ {b : Addr} {o : Obj} {es : Array DictEntry} {ep : Nat}, z.heap.get? b = some o → o.data = .dict es ep → H b = none := by
      intro b o es ep e d
      exact free e (by rw [d]; exact nofun) (by rw [d]; exact nofun)
    have nsD : ∀ {b : Addr} {m : Str → Option Value}, z.heap.Ns b m → (hidT z.heap H).Ns b m := by
      rintro b m ⟨o, es, ep, e, d, r⟩
      exact ⟨o, es, ep, hidT_get e (seqD e d), d, r⟩
    have kinD : K.In (hidT z.heap H) := by
      intro b o e
      refine hidT_get (kin b o e) ?_
      rcases all b with q | ⟨⟨p, hp, rfl⟩, _⟩ | ⟨rfl, q⟩
      · exact q
      · rw [tA.out p hp] at e; cases e
      · rw [out (by rw [q]; simp)] at e; cases e
    have modD : L2.Mod K mg (hidT z.heap H) := by
      obtain ⟨mc, n1, n2⟩ := nl
      exact ⟨kinD, nsD gl, ⟨mb, nsD bl, bb⟩, ⟨mc, nsD n1, n2⟩⟩
    have TB : ∀ p ∈ cs, TabB (hidT z.heap H) mg p.1 p.2 := fun p hp => by
      have tp := tA.mt p hp
      constructor
      · obtain ⟨o, ws, file, tf, flags, tg, inF, text, tt, e, dc, d, d1, r⟩ := tA.hd p hp
        refine ⟨o, ws, file, tf, flags, tg, inF, text, tt, hidT_get e (free e (fun q => ?_) (by rw [d]; exact nofun)), dc, d, d1, r⟩
        rw [d] at q; cases q; simp at d1
      · obtain ⟨bm, ob, b1, b2, b3, b4, b5, b6⟩ := hbm
        refine ⟨bm, ob, b1, b2, fun q => ?_, fun q => ?_, hidT_get b3 (free b3 (by rw [b6]; exact nofun) (by rw [b6]; exact nofun)), b4, b5, b6⟩
        · obtain ⟨o, es, ep, e, d, _⟩ := gl
          rw [q, e] at b3; cases b3
          rw [d] at b6; cases b6
        · rw [q, tp] at b3; cases b3; cases b6
      · intro q
        obtain ⟨o, es, ep, e, d, _⟩ := gl
        rw [q, tp] at e; cases e; cases d
    have e0 : Env0 P w K mg (hidT z.heap H) callerA [] z H :=
      ⟨rfl, modD, fun b o e => of_hidT e, Nat.le_of_eq (hidT_size _ _), trivial, fun b hb => absurd (show b ∈ ([] : List Addr) from hb) (by simp), held, .of_eq ng⟩
    refine codeAny_mono ((F _ kinD (nsD gl) TB).run callerA [] z H ⟨[.ref l], []⟩ [.ref l] [.ref l] _ _ rfl room e0 (bind z (.ref l)) (.cons rfl .nil) (want H tabs seq)) fun r z' got => ?_
    cases r with
    | error e => exact False.elim got
    | ok fl =>
      cases fl with
      | next => exact False.elim got
      | brk => exact False.elim got
      | cont => exact False.elim got
      | ret u =>
        obtain ⟨v, H', os, bare, un, held', rv, q⟩ := got
        have q' : v = .bl true := q
        subst q'
        obtain rfl : u = Value.bool true := rv
        -- what is no table is as it was; a table has grown
        have same : ∀ b o, (¬ ∃ p ∈ cs, p.2 = b) → z.heap.get? b = some o → z'.heap.get? b = some o := fun b o nt e => by
          rcases all b with n | ⟨n, _⟩ | ⟨rfl, q⟩
          · exact un.keep b o e n (fun y => absurd (show b ∈ ([] : List Addr) from y) (by simp)) (by simp)
          · exact absurd n nt
          · obtain ⟨e1, _⟩ := held b _ q
            obtain ⟨e2, _⟩ := held' b _ (un.frzs b _ _ q)
            rw [e] at e1
            cases e1
            exact e2
        have grown : ∀ p ∈ cs, ∃ more : Array Value, z'.heap.get? p.2 = some { cls := .none, data := .fields more } := fun p hp => by
          obtain ⟨more, y⟩ := un.tbls p.2 #[] (tabs p hp)
          exact ⟨_, held' p.2 _ y⟩
        refine ⟨rfl, ⟨fun b o e => ?_, fun b o e => ?_⟩, os, bare⟩
        · by_cases ht : ∃ p ∈ cs, p.2 = b
          · obtain ⟨p, hp, rfl⟩ := ht
            obtain ⟨more, hm⟩ := grown p hp
            have mt := tA.mt p hp
            rw [mt] at e; cases e
            exact .inr (.inl ⟨((tA.hd p hp).tab mt).isCodeTable, rfl, #[], more, rfl, by rw [Array.empty_append]; exact hm⟩)
          · exact .inl (same b o ht e)
        · by_cases ht : ∃ p ∈ cs, p.2 = b
          · obtain ⟨p, hp, rfl⟩ := ht
            obtain ⟨more, hm⟩ := grown p hp
            exact ⟨_, hm⟩
          · exact ⟨o, same b o ht e⟩
  -- the two cases: the script is in K, or tracked by its object
  classical
  let B : Hp := fun b => if ∃ p ∈ cs, p.2 = b then some (.tbl #[]) else none
  have Bt : ∀ p ∈ cs, B p.2 = some (.tbl #[]) := fun p hp => if_pos ⟨p, hp, rfl⟩
  have Bn : ∀ {b}, (¬ ∃ p ∈ cs, p.2 = b) → B b = none := fun h => if_neg h
  have lB : ¬ ∃ p ∈ cs, p.2 = l := fun ⟨p, hp, e⟩ => nlT p hp e
  have okB : ∀ b u, B b = some u → u = .tbl #[] ∧ z.heap.get? b = some { cls := .none, data := .fields #[] } := fun b u y => by
    by_cases ht : ∃ p ∈ cs, p.2 = b
    · have y' := (if_pos ht).symm.trans y
      cases y'
      obtain ⟨p, hp, rfl⟩ := ht
      exact ⟨rfl, tA.mt p hp⟩
    · rw [Bn ht] at y; cases y
  cases hk : K.lookup l with
  | some o =>
    have e := kin l o hk
    rw [hl] at e
    cases e
    refine go B Bt (fun b => ?_) (Or.inr ⟨_, us.toArray, _, hk, rfl, rfl, rfl, by rw [List.size_toArray, size]; exact many, by simpa using rel⟩) (fun b u y => ?_) fun y => absurd (Bn lB) y
    · by_cases ht : ∃ p ∈ cs, p.2 = b
      · obtain ⟨p, hp, rfl⟩ := ht
        exact Or.inr (Or.inl ⟨⟨p, hp, rfl⟩, Bt p hp⟩)
      · exact Or.inl (Bn ht)
    · obtain ⟨rfl, e⟩ := okB b u y
      exact e
  | none =>
    refine go (fun b => if b = l then some (.frz { cls := .type "list", data := .seq us.toArray } (.lst (ns.map V.int))) else B b) (fun p hp => (if_neg (nlT p hp)).trans (Bt p hp)) (fun b => ?_) (Or.inl (Or.inr ⟨_, if_pos rfl⟩)) (fun b u y => ?_) fun _ => hk
    · by_cases hb : b = l
      · exact Or.inr (Or.inr ⟨hb, if_pos hb⟩)
      · by_cases ht : ∃ p ∈ cs, p.2 = b
        · obtain ⟨p, hp, rfl⟩ := ht
          exact Or.inr (Or.inl ⟨⟨p, hp, rfl⟩, (if_neg hb).trans (Bt p hp)⟩)
        · exact Or.inl ((if_neg hb).trans (Bn ht))
    · by_cases hb : b = l
      · have y' := (if_pos hb).symm.trans y
        cases y'
        subst hb
        exact ⟨hl, by rw [List.length_map]; exact many, us, _, rel, hl⟩
      · obtain ⟨rfl, e⟩ := okB b u ((if_neg hb).symm.trans y)
        exact e
end
/-- what the head has to tell of the law -/
def LawG (l : PySem.W.OpenLaw) (w : World) (K : PySem.W.Frag) (k n : Nat) (x : Str) (mg : Str → Option Value) (fa : Addr) (h : Heap) : Prop :=
  ∃ (fd : FuncData) (cs : List (Addr × Addr)) (sp : Sp), TabsAt K h cs ∧ (∀ (s : Shared) (u : Value), BindsTo s fd ⟨[u], []⟩ [(x, u)]) ∧
    (∀ (H : Hp) (a : Addr) (ns : List Int), ns.length ≤ n → (∀ p ∈ cs, H p.2 = some (.tbl #[])) → SqL K H a (ns.map V.int) → sp [.ref a] H (fun v _ => v = .bl true) E0) ∧
    ∀ base : Heap, K.In base → base.Ns mainGlobals mg → (∀ p ∈ cs, TabB base mg p.1 p.2) → FnG l.prog w K mg base k fa fd [x] sp
theorem walkGT {l : PySem.W.OpenLaw} {n k : Nat} {q : Program} {loose : List Str} {XP : (Str → Option Value) → Heap → Prop} {YP : World → Heap → Prop} {d : DefRec} {x : Str}
    (hn : l.most = some n) (hn2 : n ≤ sizeLine) (hdf : d.params.defaults = []) (room : Room k callerA)
    (F : ∀ (w : World) (mg : Str → Option Value) (fa : Addr) (h : Heap), YP w h → h.Ns mainGlobals mg → mg d.name = some (.ref fa) → ∃ K : PySem.W.Frag, K.In h ∧ LawG l w K k n x mg fa h) :
    PySem.W.WalkO q loose XP YP l.row.toRowW d [] (fun f vs => PySem.call f vs) := by
  refine Att.attach_callB hn hdf fun w s₀ s₁ mg mb fa o pm cd doc a vs ns G Y ho hd hcd hmg hobj hints hlen hbits hg => ?_
  obtain ⟨K, kin, fd, cs, sp, tA, bind, want, hF⟩ := F w mg fa _ Y G.T.g hmg
  exact enterGT kin G.T.g G.T.b G.T.builtins G.T.nolimit hg tA G.T.bmain hobj hints (Nat.le_trans hlen hn2) room hF bind fun H tabs seq => want H a ns hlen tabs seq
/-! ### from the hook's facts -/
theorem fun_of {K : PySem.W.Frag} {x : Str} {st : Stmt} {f : Addr} {fd : FuncData} (F : FunD K x x (defArgs st) (defBody st) (defScope st) [] [] f fd) : Fun K x x st f fd := by
  obtain ⟨oc, od, dV, kV, doc, pm, an, cdv, ct, osl, e, lk, hc, hd, _⟩ := F.ex
  rcases hd with ⟨_, rfl⟩ | ⟨h, _⟩
  · exact ⟨⟨oc, od, kV, doc, pm, an, cdv, ct, osl, e, lk, hc⟩, F.kp⟩
  · exact absurd rfl h
theorem code_of_fun {K : PySem.W.Frag} {x : Str} {st : Stmt} {p : Str × Option Str} {fd : FuncData} (F : Fun K x x st (He.fAd K p) fd) : fd.code = .ref (He.cT K p).1 := by
  obtain ⟨oc, od, kV, doc, pm, an, cdv, ct, osl, e, lk, hc⟩ := F.ex
  obtain ⟨c, rfl⟩ := He.codeIn_ref hc
  have hc2 : fd.code = .ref c := by rw [e]
  show fd.code = .ref (He.codeOf K p)
  rw [He.codeOf_eq lk hc2]; exact hc2
theorem uni2 {a b : Addr} {q r : Str} (h : a ≠ b) : (∀ p ∈ [(a, q), (b, r)], p.1 = a → p.2 = q) ∧ (∀ p ∈ [(a, q), (b, r)], p.1 = b → p.2 = r) := by
  constructor <;> intro p hp e <;> rcases List.mem_cons.mp hp with rfl | hp
  · rfl
  · rw [List.mem_singleton.mp hp] at e; exact absurd e.symm h
  · exact absurd e h
  · rw [List.mem_singleton.mp hp]
theorem tabs_empty {T : List (Addr × Str)} {H : Hp} (h : ∀ p ∈ T, H p.1 = some (.tbl #[])) : Tabs T H := fun p hp => ⟨#[], h p hp, trivial, fun pos cv z => nomatch (show (none : Option Value) = some cv from z)⟩
end G
set_option Elab.async false
set_option linter.all false
set_option maxRecDepth 100000
set_option maxHeartbeats 2000000
/-! a hook that also tells of own error classes whose __init__ says super().__init__; the empty tables left out -/
namespace G
open PySem PySem.Spec PyProof.Rows L2 NdefX
/-- an own error class: its name, its __init__ (qualified name, statement), attributes that the class has not -/
structure ErrD where
  x : Str
  qual : Str
  st : Stmt
  no : List Str
abbrev ErV : Type := Option (Str × Str × Arguments × FuncBody × Scope × Addr × List Str × Value × Addr)
abbrev iniF (st : Stmt) (qual : Str) (cc cda : Addr) : NF := ⟨"__init__", qual, C8.fnArgs st, C8.fnBody st, C8.fnScope st, [(("__class__" : Str), cc)], cda⟩
section
variable (K : PySem.W.Frag) (e : ErrD)
def errC : Addr := He.ga K e.x
def errI : Addr := He.ma K (errC K e) "__init__"
def errObs : ErV := match K.lookup (errI K e) with
  | some ⟨_, _, .func fd, _⟩ => some (fd.name, fd.qualname, fd.params, fd.body, fd.scope, fd.globals, fd.closure.map (·.1), fd.defaults, fd.builtins)
  | _ => none
def ErrD.val : ErV := some ("__init__", e.qual, C8.fnArgs e.st, .stmts (C8.fnBody e.st), C8.fnScope e.st, mainGlobals, ["__class__"], .none, builtinsNs)
/-- the class's object -/
def errObj (C : Addr) : Bool := match K.lookup C with
  | some ⟨.type t, _, .cls cd, sl⟩ => decide (t = "type") && (match cd.mro, sl.toList with
    | .ref D :: bm, [_, _, _, _, some (.builtin n), _] => decide (D = C) && (decide (n = "ValueError.__new__") && (!cd.hasDel && (cd.hasDict && PySem.HandSPX.refsVE bm)))
    | _, _ => false)
  | _ => false
/-- the method's code and cell -/
def errCode (file : Str) : Bool := match K.lookup (errI K e) with
  | some ⟨_, _, .func fd, _⟩ => (match fd.code with
    | .ref c => PySem.W.codeIn K (.ref c) e.qual && (match K.lookup c with
      | some ⟨_, _, .fields vs, _⟩ => (match (vs[2]? : Option Value) with
        | some (.str f _) => file == f
        | _ => false)
      | _ => false)
    | _ => false) && (match fd.closure with
    | [(_, cc)] => (match K.lookup cc with
      | some ⟨_, _, .cell (some (.ref D)), _⟩ => decide (D = errC K e)
      | _ => false)
    | _ => false)
  | _ => false
def errFacts : List Bool := [
  He.eqO (PySem.W.nsIn K mainGlobals e.x) (some (some (.ref (errC K e)))),
  errObj K (errC K e),
  He.eqO (PySem.W.findIn K (.ref (errC K e)) "__setattr__") (some (some (.builtin "object.__setattr__"))),
  decide (PySem.W.subIn K (.ref (errC K e)) (.type "BaseException") = some true),
  decide (PySem.W.typeIn K (.ref (errC K e)) = some (.type "type")),
  PySem.W.keepIn K (.ref (errC K e)),
  He.eqO (PySem.W.ks_superIn K (errC K e) (errC K e) "__init__") (some (some (.builtin "ValueError.__init__"))),
  decide (PySem.W.subIn K (.ref (errC K e)) (.type "ValueError") = some true),
  decide (PySem.W.mroIn K (errC K e) (.ref (errC K e)) = some true),
  He.eqO (PySem.W.nsIn K PySem.cStatics "thirdparty.any") (some none),
  He.eqO (PySem.W.findIn K (.ref (errC K e)) "__init__") (some (some (.ref (errI K e)))),
  decide (PySem.W.typeIn K (.ref (errI K e)) = some (.type "function")),
  xfB K (errC K e),
  e.no.all fun y => He.eqO (PySem.W.findIn K (.ref (errC K e)) y) (some none),
  He.eqO (PySem.W.nsIn K mainGlobals "super") (some none)]
def errB (file : Str) : Bool := errCode K e file && (errFacts K e).all id
end
/-- what stands written of such a class -/
structure ErrQ (P : Program) (K : PySem.W.Frag) (mg : Str → Option Value) (x : Str) (st : Stmt) (qual : Str) (C f cc cda : Addr) (fd : FuncData) (no : List Str) : Prop where
  g : mg x = some (.ref C)
  T : OexC K C
  S : SupC K C "ValueError" "ValueError.__init__"
  M : Ini P K C f cc (iniF st qual cc cda) fd "self"
  iC : PySem.W.findIn K (.ref C) "__init__" = some (some (.ref f))
  tI : PySem.W.typeIn K (.ref f) = some (.type "function")
  X : XfC K C
  no : ∀ y ∈ no, PySem.W.findIn K (.ref C) y = some none
  sup : mg "super" = none
section
variable {K : PySem.W.Frag} {e : ErrD} {h : Heap} {mg : Str → Option Value} {P : Program}
theorem errObj_ok {C : Addr} (q : errObj K C = true) : ∃ nm qn N bs bm sn sub ab col dd k0 k1 k2 k3 k5, K.lookup C = some (excClassObj nm qn C N bs bm true sn sub ab col dd k0 k1 k2 k3 k5 "ValueError.__new__") ∧ PySem.HandSPX.refsVE bm = true := by
  unfold errObj at q
  split at q
  · rename_i t dd cd sl ho
    obtain ⟨q1, q2⟩ := He.ba q
    obtain rfl := of_decide_eq_true q1
    split at q2
    · rename_i D bm k0 k1 k2 k3 n k5 hm hs
      obtain ⟨rfl, q3⟩ := He.ba q2 |>.imp of_decide_eq_true id
      obtain ⟨rfl, q4⟩ := He.ba q3 |>.imp of_decide_eq_true id
      obtain ⟨q5, q6⟩ := He.ba q4
      obtain ⟨q7, q8⟩ := He.ba q6
      obtain ⟨nm, bs, mro, ns, qn, hd, sn, sub, ab, col, del⟩ := cd
      have e1 : mro = .ref D :: bm := hm
      have e2 : del = false := by simpa using q5
      have e3 : hd = true := q7
      subst e1 e2 e3
      have e4 : sl = #[k0, k1, k2, k3, some (.builtin "ValueError.__new__"), k5] := by
        obtain ⟨l⟩ := sl
        have e5 : l = _ := hs
        rw [e5]
      subst e4
      exact ⟨nm, qn, ns, bs, bm, sn, sub, ab, col, dd, k0, k1, k2, k3, k5, ho, q8⟩
    · cases q2
  · cases q
theorem err_ok {file : Str} (X : K.In h) (G : h.Ns mainGlobals mg) (o : errObs K e = e.val) (b : errB K e file = true) (top : (P.main.scope.names.lookup ("super" : Str)).isSome = false) (hf : P.main.file = file)
    (self : ∃ ar : Arg, ((C8.fnArgs e.st).posonlyargs ++ (C8.fnArgs e.st).args).head? = some ar ∧ ar.arg = "self") :
    ∃ cc cda kV doc pm ct an, ErrQ P K mg e.x e.st e.qual (errC K e) (errI K e) cc cda (PySem.W.fnX "__init__" e.qual (C8.fnArgs e.st) (C8.fnBody e.st) (C8.fnScope e.st) [(("__class__" : Str), cc)] .none kV doc pm an (.ref cda) ct) e.no := by
  obtain ⟨b1, b2⟩ := He.ba b
  have all := List.all_eq_true.mp b2
  have f : ∀ {i : Nat} {c : Bool}, (errFacts K e)[i]? = some c → c = true := fun {i c} hi => all c (List.mem_of_getElem? hi)
  unfold errObs at o
  unfold errCode at b1
  cases q : K.lookup (errI K e) with
  | none => rw [q] at b1; cases b1
  | some ob =>
    obtain ⟨oc, od, dt, osl⟩ := ob
    rw [q] at b1 o
    cases dt with
    | func fd =>
      obtain ⟨n1, n2, n3, n4, n5, n6, n7, n8, n9, n10, n11, n12, n13, n14, n15⟩ := fd
      have o2 : (some (n1, n2, n3, n4, n5, n6, n7.map (·.1), n8, n15) : ErV) = (some ("__init__", e.qual, C8.fnArgs e.st, FuncBody.stmts (C8.fnBody e.st), C8.fnScope e.st, mainGlobals, ["__class__"], Value.none, builtinsNs) : ErV) := o
      simp only [Option.some.injEq, Prod.mk.injEq] at o2
      obtain ⟨rfl, rfl, rfl, rfl, rfl, rfl, h7, rfl, rfl⟩ := o2
      obtain ⟨c1, c2⟩ := He.ba b1
      split at c1
      · rename_i cda hcode
        obtain rfl : n13 = .ref cda := hcode
        obtain ⟨c3, c4⟩ := He.ba c1
        split at c4
        · rename_i ccl cdd vs ccs hcda
          split at c4
          · rename_i fl tf hfl
            split at c2
            · rename_i y cc hcl
              have hcl' : n7 = [(y, cc)] := hcl
              subst hcl'
              have hy : y = "__class__" := by simpa using h7
              subst hy
              split at c2
              · rename_i cl cld D csl hcc
                have hD := of_decide_eq_true c2
                subst hD
                obtain ⟨nm, qn, N, bs, bm, sn, sub, ab, col, dd, k0, k1, k2, k3, k5, hC, hbm⟩ := errObj_ok (f (i := 1) rfl)
                refine ⟨cc, cda, n9, n10, n11, n14, n12, ?_⟩
                exact {
                  g := PySem.W.mg_of X G (He.eqO_ok (f (i := 0) rfl))
                  T := ⟨⟨nm, qn, N, bs, bm, sn, sub, ab, col, dd, k0, k1, k2, k3, k5, hC, hbm⟩, He.eqO_ok (f (i := 2) rfl), of_decide_eq_true (f (i := 3) rfl), of_decide_eq_true (f (i := 4) rfl), f (i := 5) rfl⟩
                  S := ⟨He.eqO_ok (f (i := 6) rfl), of_decide_eq_true (f (i := 7) rfl), of_decide_eq_true (f (i := 8) rfl), He.eqO_ok (f (i := 9) rfl)⟩
                  M := ⟨⟨_, _, _, _, _, rfl⟩, rfl, c3, ⟨⟨_, _, _, q⟩, self, ⟨_, _, _, _, _, _, hcda, hfl, by rw [hf]; exact c4⟩, ⟨_, _, _, hcc⟩, top⟩⟩
                  iC := He.eqO_ok (f (i := 10) rfl)
                  tI := of_decide_eq_true (f (i := 11) rfl)
                  X := xfB_ok (f (i := 12) rfl)
                  no := fun y hy => He.eqO_ok (List.all_eq_true.mp (f (i := 13) rfl) y hy)
                  sup := PySem.W.mg_none_of X G (He.eqO_ok (f (i := 14) rfl)) }
              · cases c2
            · cases c2
          · cases c4
        · cases c4
      · cases c1
    | _ => cases b1
end
/-! ### the hook -/
section
variable (n : Nat) (fa : List He.Fa) (fn : List He.DefD) (tf : List He.Defn) (ex : PySem.W.Frag → Bool) (es : List ErrD) (file : Str)
/-- what the module's names reach, and the statics -/
def KY (g : Addr → Option Obj) : PySem.W.Frag := He.frT g (PySem.cStatics :: He.asD g n)
abbrev AlY : Type := He.AlT × List ErV × Bool
def obsK (g : Addr → Option Obj) (K : PySem.W.Frag) : AlY := (He.obsT fa fn [] K, es.map (errObs K), (ex K && He.tabsB g tf K) && es.all fun e => errB K e file)
def obsY (g : Addr → Option Obj) : AlY := obsK fa fn tf ex es file g (KY n g)
def valY (w : World) : AlY := (He.valT fn [] w, es.map ErrD.val, true)
structure SaysY (w : World) (h : Heap) (K : PySem.W.Frag) : Prop where
  x : He.SaysX fa fn [] tf ex w h K
  o : ∀ e ∈ es, errObs K e = e.val
  b : ∀ e ∈ es, errB K e file = true
theorem saysY_of {w : World} {h : Heap} (q : obsY n fa fn tf ex es file h.get? = valY fn es w) : SaysY fa fn tf ex es file w h (KY n h.get?) := by
  have q1 : He.obsT fa fn [] (KY n h.get?) = He.valT fn [] w := congrArg (fun y : AlY => y.1) q
  have q2 : es.map (errObs (KY n h.get?)) = es.map ErrD.val := congrArg (fun y : AlY => y.2.1) q
  have q3 : ((ex (KY n h.get?) && He.tabsB h.get? tf (KY n h.get?)) && es.all fun e => errB (KY n h.get?) e file) = true := congrArg (fun y : AlY => y.2.2) q
  obtain ⟨q4, q5⟩ := He.ba q3
  obtain ⟨q6, q7⟩ := He.ba q4
  have tabs : ∀ p ∈ tf, PySem.W.codeHdIn (KY n h.get?) (He.cT (KY n h.get?) p).1 (He.cT (KY n h.get?) p).2 = true ∧ ∃ ob, h.get? (He.cT (KY n h.get?) p).2 = some ob ∧ He.emptyTab ob = true := by
    intro p hp
    obtain ⟨t1, t2⟩ := He.ba (List.all_eq_true.mp q7 p hp)
    refine ⟨t1, ?_⟩
    split at t2
    · rename_i ob hob
      exact ⟨ob, hob, t2⟩
    · cases t2
  refine ⟨⟨q1, q6, fun p hp => (tabs p hp).1, fun p hp => ?_, fun p hp => ?_⟩, fun e he => ?_, fun e he => List.all_eq_true.mp q5 e he⟩
  · obtain ⟨_, ob, t1, t2⟩ := tabs p hp
    exact He.frT_none t1 t2
  · obtain ⟨_, ob, t1, t2⟩ := tabs p hp
    rw [t1, He.emptyTab_eq t2]
  · obtain ⟨i, hi, rfl⟩ := List.mem_iff_getElem.mp he
    have y := congrArg (fun l : List ErV => l[i]?) q2
    simp only [List.getElem?_map, List.getElem?_eq_getElem hi, Option.map_some, Option.some.injEq] at y
    exact y
def hookY : PySem.W.Hook where
  α := AlY
  obs := fun s => obsY n fa fn tf ex es file s.heap.get?
  val := fun w => valY fn es w
  says := fun w h => ∃ K : PySem.W.Frag, K.In h ∧ SaysY fa fn tf ex es file w h K
  of := fun _ _ e => ⟨_, He.frT_in, saysY_of n fa fn tf ex es file e⟩
  keeps := fun _ _ _ ⟨K, hK, c⟩ k => ⟨K, PySem.W.Frag.In.keeps hK k, ⟨⟨c.x.t, c.x.more, c.x.hd, c.x.out, fun p hp => k _ _ (c.x.empty p hp)⟩, c.o, c.b⟩⟩
theorem obsY_eq {g : Addr → Option Obj} {s : Shared} (q : ∀ a, g a = s.heap.get? a) : obsY n fa fn tf ex es file g = (hookY n fa fn tf ex es file).obs s := by
  obtain rfl : g = s.heap.get? := funext q
  rfl
end
end G
set_option Elab.async false
set_option linter.all false
set_option maxRecDepth 100000
set_option maxHeartbeats 2000000
/-! a dict comprehension without tests whose keys are tuples -/
namespace G
open PySem L2 PySem.Spec PyProof.Rows
section
variable {X : Cx} {pins : List (Addr × Obj)} {σ : L2.St} {H : Hp} {z : Shared}
/-- what a comprehension stores: as d[y] = v -/
theorem dput_set {d : Addr} {y v : V} {u r : Value} {H' : Hp} {E : Value → Shared → Prop} {Q : Unit → Shared → Prop} (room : X.A.units < cLine) (I : Inv X pins σ H z) (g : DPut H d y v H') (ry : RelV y u) (rv : RelV v r)
    (goal : ∀ z', Inv X pins σ H' z' → Q () z') : wpAny (model X.prog X.w) X.A (dictSet d u r) Q E z := by
  rcases g with ⟨kvs, k, e, rfl, l, rfl⟩ | ⟨kvs, k, b, e, rfl, eb, l, rfl⟩
  · exact d_dictSet I e l ry rv goal
  · cases (show u = Value.ref b from ry)
    obtain ⟨small, hd, xs, rel, made⟩ := dt_of I.hok e
    refine wpAny_dictSet_heap (hsz := by rw [← Paired.length rel]; exact small) room (key_of I.hok eb) made fun g' made' same => goal _ ?_
    obtain ⟨q, es, ep, g1, g2, g3, g4, _, g5⟩ := made'
    refine d_write I (by rw [e]; exact True.intro) same ⟨q, g1⟩ ⟨by have := length_putK kvs k v; omega, hd, _, (rel.put k eb rv).keeps fun c ys ec => ?_, q, es, ep, g1, g2, g3, g4, g5⟩
    rw [upd_ne (fun w => by rw [w, e] at ec; cases ec)]
    exact ec
end
section
variable {X : Cx}
/-- {k: v for target in iter}, to be a dict whose keys are tuples -/
def tDcT (wi : TI) (g : TG) (tk tv : TE) (vs : List Nat) : TE := fun σ H Q => wi σ H fun J H1 => ∀ D, H1 D = none →
  ∃ W : Nat → Nat → Hp → Prop, (∃ m, W 0 m (upd H1 D (.dT []))) ∧ ∀ i m G, W i m G → (J.stop i G ∧ Q (.ref D) G) ∨
    (J.go i G ∧ ∃ Nx : Hp → Prop, (∀ G', Nx G' → ∃ m', m' < m ∧ W (i + 1) m' G') ∧ ∀ x G', J.yld i G x G' →
      g x (wipe σ vs) G' fun σ2 G2 => wipe σ2 vs = wipe σ vs ∧ tk σ2 G2 fun y G3 => tv σ2 G3 fun u G4 => ∃ G5, DPut G4 D y u G5 ∧ Nx G5)
theorem dcT_core {pins : List (Addr × Obj)} {z0 : Shared} {σ : L2.St} {H : Hp} {Q : VK} {kx vx tg iter : Expr} {scope : Scope} {own : List (Str × Nat)} {pos pos' : Pos} {wi : TI} {g : TG} {tk tv : TE} {use : Option (Value → Sem Unit)} {Qf : Value → Shared → Prop}
    (room : X.A.units < cLine) (calm : X.calm = true) (nd : X.N.Nodup) (I : Inv X pins σ H z0) (pi : PI X tg iter wi) (ok : BlkOk X.N X.env.scope scope own)
    (pg : ∀ (z : Shared) (H : Hp) (C : Addr) (cl : List (Str × Addr)) (fp : List Addr), PG (X.blk z H scope (compEnvC scope cl C X.env) fp) tg g)
    (pk : ∀ (z : Shared) (H : Hp) (C : Addr) (cl : List (Str × Addr)) (fp : List Addr), PE (X.blk z H scope (compEnvC scope cl C X.env) fp) kx tk)
    (pv : ∀ (z : Shared) (H : Hp) (C : Addr) (cl : List (Str × Addr)) (fp : List Addr), PE (X.blk z H scope (compEnvC scope cl C X.env) fp) vx tv)
    (plain : ∀ x, foldedSetIterable iter X.env x = pure x) (want : tDcT wi g tk tv (own.map (·.2)) σ H Q)
    (fin : ∀ D C z m H', Inv X pins σ H' z → Q (.ref D) H' → z.heap.Ns C m → FpOk X pins H' C → compPost (model X.prog X.w) X.A X.xe use Qf (.ref D) C (.ok .next) z) :
    wpAny (model X.prog X.w) X.A (comprehension (.DictComp kx vx [⟨tg, iter, [], 0⟩] scope pos) scope X.env pos' newDict false (eval iter X.env) use) Qf X.xe z0 := by
  have closed : ∀ y ∈ scope.names, y.2 = .free → ∃ c, X.env.cells.lookup y.1 = some c := fun y hy e => (ok.free y hy e).elim (fun k => I.ok.has _ (.inl k)) fun k => I.ok.has _ (.inr k)
  refine wpAny_comprehension_free (use := use) rfl plain (closure_ok closed) ok.kind (fun y hy e => by rw [ok.uniq y hy, e]) (thn (pi.run pins z0 σ H _ I want) fun _ z1 hx => thn hx fun _ z2 got => ?_)
  obtain ⟨it, fp, tn, J, H2, rfl, I2, T, st2, away, q⟩ := got
  refine wpAny_newObj_type (newEnv_comp ?_)
  -- the new dict
  have fresh : H2 z2.heap.objs.size = none := I2.hok.fresh (Nat.le_refl _)
  obtain ⟨W, ⟨m0, w0⟩, turn⟩ := q _ fresh
  generalize eD : z2.heap.objs.size = D at *
  generalize ez3 : ({ z2 with heap := z2.heap.push { cls := .type "dict", data := .dict #[] } } : Shared) = z3
  have hz3 : z3.heap = z2.heap.push { cls := .type "dict", data := .dict #[] } := by rw [← ez3]
  have I3 : Inv X pins σ (upd H2 D (.dT [])) z3 := by
    rw [← ez3]
    refine I2.laid (t' := z2.toks) (fun b o e => Heap.get?_push_of_some _ e) (Nat.le_of_eq eD) ?_
    rw [← eD]
    exact dt_empty z2.heap I2.big
  have below : ∀ b ∈ fp, b < z2.heap.objs.size := fun b hb => let ⟨_, e, _⟩ := T.obj _ _ st2 b hb; Heap.lt_size e
  have away3 : ∀ b ∈ fp, FpOk X pins (upd H2 D (.dT [])) b ∧ b < z3.heap.objs.size := fun b hb => by
    have low := below b hb
    refine ⟨⟨by rw [upd_ne (by rw [← eD]; exact Nat.ne_of_lt low)]; exact (away b hb).1, (away b hb).2⟩, ?_⟩
    rw [hz3, Heap.size_push]; exact Nat.lt_succ_of_lt low
  have st3 : tn 0 z3.heap := T.keep _ _ _ st2 fun b _ o e => by rw [hz3]; exact Heap.get?_push_of_some _ e
  have none3 : ∀ b ∈ fp, (upd H2 D (.dT [])) b = none := fun b hb => (away3 b hb).1.1
  have I4 := block_start I3 ok nd away3
  generalize ecl : cellsFrom (z3.heap.objs.size + 1) scope.names (cloFrom X.env.cells scope.names []) = cl at I4
  have rg := pg z3 (upd H2 D (.dT [])) z3.heap.objs.size cl fp
  have rk := pk z3 (upd H2 D (.dT [])) z3.heap.objs.size cl fp
  have rv := pv z3 (upd H2 D (.dT [])) z3.heap.objs.size cl fp
  show codeAny _ _ (.compStart (.DictComp kx vx [⟨tg, iter, [], 0⟩] scope pos) 0 (.ref it) (.ref D)
    (compEnvC scope cl z3.heap.objs.size X.env))
    (compPost (model X.prog X.w) X.A X.xe use Qf (.ref D) z3.heap.objs.size) { z3 with heap := pushCells (z3.heap.push { cls := .type "dict", data := .dict #[] }) scope.names }
  generalize ece : compEnvC scope cl z3.heap.objs.size X.env = ce at I4 rg rk rv ⊢
  have own_at : ce.locals = z3.heap.objs.size := by subst ece; rfl
  generalize eH3 : upd H2 D (.dT []) = H3 at I3 I4 rg rk rv w0 none3 away3
  generalize ez4 : ({ z3 with heap := pushCells (z3.heap.push { cls := .type "dict", data := .dict #[] }) scope.names } : Shared) = z4 at I4 ⊢
  have st4 : tn 0 z4.heap := T.keep _ _ _ st3 fun b _ o e => by rw [← ez4]; exact pushCells_keeps _ _ _ _ (Heap.get?_push_of_some _ e)
  have held : ∀ {σ' : L2.St} {H' : Hp} {z' : Shared}, Inv (X.blk z3 H3 scope ce fp) [] σ' H' z' → (∀ b ∈ fp, H' b = none) → ∀ b ∈ fp, FpOk (X.blk z3 H3 scope ce fp) [] H' b := fun {_ _ _} J n b hb =>
    ⟨n b hb, (J.ok.exf b hb).1, J.ok.exfs b hb, .inl hb, fun x c e => (J.ok.exf b hb).2 x c e, fun p hp => absurd (show p ∈ ([] : List (Addr × Obj)) ++ [] from hp) (by simp)⟩
  have loop : codeAny (model X.prog X.w) X.A (.compLoop (.DictComp kx vx [⟨tg, iter, [], 0⟩] scope pos) 0 (.ref it) (.ref D) ce) (compPost (model X.prog X.w) X.A X.xe use Qf (.ref D) z3.heap.objs.size) z4 := by
    refine compLoop_anyD (fun n z' => ∃ i G, Inv (X.blk z3 H3 scope ce fp) [] (wipe σ (own.map (·.2))) G z' ∧ tn i z'.heap ∧ (∀ b ∈ fp, G b = none) ∧ W i n G) ?_ m0 ⟨0, H3, I4, st4, none3, w0⟩
    rintro n z5 ⟨i, G5, I5, st5, n5, w5⟩
    rcases turn i n G5 w5 with ⟨stop, last⟩ | ⟨go, Nx, less, step⟩
    · -- no more items
      refine thnF (T.done (X.blk z3 H3 scope ce fp) rfl rfl rfl calm i [] z5 _ G5 (fun _ _ => False) I5 (held I5 n5) st5 stop) fun r z6 ⟨er, I6⟩ => ?_
      subst er
      have I7 : Inv X pins σ G5 z6 := I3.call' (ch := fp) I6.os I6.base I6.hok I6.bare fun b hb => let y := (away3 b hb).1.2; ⟨y.2.2.1, y.1, y.2.2.2.1, y.2.2.2.2⟩
      have nC : G5 z3.heap.objs.size = none := own_at ▸ (show G5 ce.locals = none from I6.free)
      obtain ⟨m, ns, _⟩ := I6.loc
      have ns : z6.heap.Ns ce.locals m := ns
      rw [own_at] at ns
      exact fin D z3.heap.objs.size z6 m G5 I7 last ns (I3.fpOk (Nat.le_refl _) nC)
    · -- one more
      refine thnF (T.item (X.blk z3 H3 scope ce fp) rfl rfl rfl calm i [] z5 _ G5 (fun _ _ => False) I5 (held I5 n5) st5 go) fun r z6 ⟨u, er, more⟩ => ?_
      subst er
      refine thnF more fun _ z7 ⟨x, G7, I7, r7, y7, st7, n7⟩ => ?_
      have I7' := I7.pinned (held I7 n7) (T.obj _ _ st7)
      refine thnF (rg.run _ z7 _ G7 x u _ I7' r7 (step x G7 y7)) fun _ z8 ⟨σ8, G8, I8, same8, q8⟩ => ?_
      refine thnF ((pts_nil (X := X.blk z3 H3 scope ce fp)).run _ z8 σ8 G8 (fun b G => b = true ∧ G = G8) I8 ⟨rfl, rfl⟩) fun b z9 ⟨G9, I9, eb, eG⟩ => ?_
      subst eb eG
      rw [if_pos rfl]
      refine thnF (rk.run _ z9 σ8 G9 _ I9 q8) fun ku z10 ⟨ky, G10, I10, r10, q10⟩ => ?_
      refine thnF (rv.run _ z10 σ8 G10 _ I10 q10) fun vu z11 ⟨vy, G11, I11, r11, G12, put, nx⟩ => ?_
      refine dput_set (X := X.blk z3 H3 scope ce fp) room I11 put r10 r11 fun z12 I12 => ?_
      obtain ⟨m', lt, w'⟩ := less G12 nx
      have stay : ∀ b ∈ fp, ∀ o, z7.heap.get? b = some o → z12.heap.get? b = some o ∧ G12 b = none := fun b hb o e =>
        let y := I12.pin (b, o) (List.mem_append_right _ (List.mem_append_right _ (mem_pinsAt hb e)))
        ⟨y.1, y.2.1⟩
      refine ⟨m', lt, i + 1, G12, (I12.unpinned (pins := [])).weak (by rw [← same8, wipe_length]) (fun j v e => ?_), T.keep _ _ _ st7 fun b hb o e => (stay b hb o e).1, fun b hb => ?_, w'⟩
      · rw [← same8] at e
        exact (wipe_some e).1
      · obtain ⟨o, e, _⟩ := T.obj _ _ st7 b hb
        exact (stay b hb o e).2
  exact codeAny_compStart_dict loop (T.self X.A 0 _ _ _ st4 loop)
/-- as a value -/
theorem pe_dcT {kx vx tg iter : Expr} {scope : Scope} {own : List (Str × Nat)} {pos : Pos} {wi : TI} {g : TG} {tk tv : TE} (room : X.A.units < cLine) (calm : X.calm = true) (nd : X.N.Nodup) (pi : PI X tg iter wi) (ok : BlkOk X.N X.env.scope scope own)
    (pg : ∀ (z : Shared) (H : Hp) (C : Addr) (cl : List (Str × Addr)) (fp : List Addr), PG (X.blk z H scope (compEnvC scope cl C X.env) fp) tg g)
    (pk : ∀ (z : Shared) (H : Hp) (C : Addr) (cl : List (Str × Addr)) (fp : List Addr), PE (X.blk z H scope (compEnvC scope cl C X.env) fp) kx tk)
    (pv : ∀ (z : Shared) (H : Hp) (C : Addr) (cl : List (Str × Addr)) (fp : List Addr), PE (X.blk z H scope (compEnvC scope cl C X.env) fp) vx tv)
    (plain : ∀ x, foldedSetIterable iter X.env x = pure x := by intro _; rfl) : PE X (.DictComp kx vx [⟨tg, iter, [], 0⟩] scope pos) (tDcT wi g tk tv (own.map (·.2))) := by
  constructor
  intro pins z0 σ H Q I want
  rw [arm_eval_DictComp]
  refine dcT_core room calm nd I pi ok pg pk pv plain want fun D C z m H' J last ns away => ⟨m, ns, fun g' same => ?_⟩
  obtain ⟨a0, a1, a2, a3, a4, a5⟩ := away
  exact ⟨.ref D, H', J.turned (t' := z.toks) (fun b o hb e => (same.2 b hb).trans e) a0 a1 a3 a4 a5, rfl, last⟩
/-- .. given to a name on one line -/
theorem ps_setDcT {i : Nat} {y : Str} {py : Pos} {kx vx tg iter : Expr} {scope : Scope} {own : List (Str × Nat)} {pos spos : Pos} {wi : TI} {g : TG} {tk tv : TE} (room : X.A.units < cLine) (calm : X.calm = true) (nd : X.N.Nodup) (hy : X.N[i]? = some y) (loc : X.env.scope.names.lookup y = some .local)
    (sw : swapsWith (.DictComp kx vx [⟨tg, iter, [], 0⟩] scope pos) (some (.Name y py)) spos.line X.env = pure true) (pi : PI X tg iter wi) (ok : BlkOk X.N X.env.scope scope own)
    (pg : ∀ (z : Shared) (H : Hp) (C : Addr) (cl : List (Str × Addr)) (fp : List Addr), PG (X.blk z H scope (compEnvC scope cl C X.env) fp) tg g)
    (pk : ∀ (z : Shared) (H : Hp) (C : Addr) (cl : List (Str × Addr)) (fp : List Addr), PE (X.blk z H scope (compEnvC scope cl C X.env) fp) kx tk)
    (pv : ∀ (z : Shared) (H : Hp) (C : Addr) (cl : List (Str × Addr)) (fp : List Addr), PE (X.blk z H scope (compEnvC scope cl C X.env) fp) vx tv)
    (plain : ∀ x, foldedSetIterable iter X.env x = pure x := by intro _; rfl) :
    PS X (.Assign [.Name y py] (.DictComp kx vx [⟨tg, iter, [], 0⟩] scope pos) spos) (tAsg (tDcT wi g tk tv (own.map (·.2))) (gName i)) := by
  constructor
  intro pins z0 σ H D I want
  rw [exec_Assign_Name_used _ _ _ _ sw]
  refine wpAny_bind (wpAny_standAt (wpAny_bind ?_))
  show wpAny _ X.A (do
    let _ ← comprehension (.DictComp kx vx [⟨tg, iter, [], 0⟩] scope pos) scope X.env (firstIterPos [⟨tg, iter, [], 0⟩] pos) newDict false (eval iter X.env) (some (assign (.Name y py) X.env))) _ _ z0
  have want' : tDcT wi g tk tv (own.map (·.2)) σ H (fun x G => gName i x σ G D.nx) := want
  refine wpAny_bind (thn (dcT_core (Qf := fun _ z => SP X pins D .next z) room calm nd I pi ok pg pk pv plain want' fun L C z m H' J last ns away => ?_) fun _ z q => wpAny_pure (wpAny_pure q))
  show wpAny _ _ (assign (.Name y py) X.env (.ref L)) _ _ _
  refine wpAny_assign_Name (store_ok2 (v := V.ref L) J nd hy (.inl loc) rfl (fun z2 J2 ⟨a, same, at_⟩ => ?_) (.inr loc))
  obtain ⟨a0, a1, a2, a3, a4, a5⟩ := away
  have ne : C ≠ a := at_.elim (fun q => by rw [q]; exact a1) fun q e => a4 y a q e.symm
  exact ⟨m, ns.sameBut same ne, fun g' same' => ⟨_, H', J2.turned (t' := z2.toks) (fun b o hb e => (same'.2 b hb).trans e) a0 a1 a3 a4 a5, last⟩⟩
theorem swD_true {kx vx : Expr} {gs : List Comprehension} {scope : Scope} {pos py : Pos} {y : Str} {l : Nat} {env : Env} (kind : env.scope.kind = .function) (loc : env.scope.names.lookup y = some .local) (one : (py.line == pos.line) = true)
    (free : (scope.names.any fun (n, k) => n == y && (k == .local || k == .cell)) = false) : swapsWith (.DictComp kx vx gs scope pos) (some (.Name y py)) l env = pure true := by
  have block : env.blockKind = .function := by unfold Env.blockKind; rw [kind]; rfl
  unfold swapsWith
  simp only [block, (show env.kindOf y = some .local from loc), free, Expr.pos, one]
  rfl
/-- over a tuple that stays -/
theorem dcT_tup {K : PySem.W.Frag} {a D : Addr} {xs : List V} {g : TG} {tk tv : TE} {vs : List Nat} {σ : L2.St} {H1 : Hp} {Qd : Hp → Prop} (P : Nat → Hp → Prop) (p0 : P 0 (upd H1 D (.dT []))) (there : ∀ i G, i ≤ xs.length → P i G → SqT K G a xs)
    (step : ∀ i x G, xs[i]? = some x → P i G → g x (wipe σ vs) G fun σ2 G2 => wipe σ2 vs = wipe σ vs ∧ tk σ2 G2 fun y G3 => tv σ2 G3 fun u G4 => ∃ G5, DPut G4 D y u G5 ∧ P (i + 1) G5) (last : ∀ G, P xs.length G → Qd G) :
    ∃ W : Nat → Nat → Hp → Prop, (∃ m, W 0 m (upd H1 D (.dT []))) ∧ ∀ i m G, W i m G → ((Itt K a).stop i G ∧ Qd G) ∨
      ((Itt K a).go i G ∧ ∃ Nx : Hp → Prop, (∀ G', Nx G' → ∃ m', m' < m ∧ W (i + 1) m' G') ∧ ∀ x G', (Itt K a).yld i G x G' →
        g x (wipe σ vs) G' fun σ2 G2 => wipe σ2 vs = wipe σ vs ∧ tk σ2 G2 fun y G3 => tv σ2 G3 fun u G4 => ∃ G5, DPut G4 D y u G5 ∧ Nx G5) := by
  refine ⟨fun i m G => m = xs.length - i ∧ i ≤ xs.length ∧ P i G, ⟨_, rfl, Nat.zero_le _, p0⟩, fun i m G w => ?_⟩
  obtain ⟨rfl, hi, p⟩ := w
  have sq := there i G hi p
  rcases Nat.lt_or_ge i xs.length with lt | ge
  · refine .inr ⟨⟨xs, xs[i], sq, List.getElem?_eq_getElem lt⟩, P (i + 1), fun G' p' => ⟨xs.length - (i + 1), by omega, rfl, lt, p'⟩, fun x G' y => ?_⟩
    obtain ⟨rfl, y⟩ := y
    exact step i x _ (y xs sq) p
  · obtain rfl : i = xs.length := by omega
    exact .inl ⟨⟨xs, sq, Nat.le_refl _⟩, last G p⟩
end
end G
set_option Elab.async false
set_option linter.all false
set_option maxRecDepth 100000
set_option maxHeartbeats 4000000
set_option exponentiation.threshold 10000
namespace G
open PySem L2 LamX NdefX
/-! ### the error BadMove -/
def sIniM : Stmt := (C8.clsBody (top 6)).getD 0 (.Pass ⟨0, 0, 0, 0⟩)
theorem ns_iniM : NScope ["self", "__class__"] ["self"] ["__class__"] (C8.fnScope sIniM) := nscope_by (by decide +kernel)
theorem sup_iniM : (C8.fnScope sIniM).names.lookup ("super" : Str) = some .globalImplicit := by decide +kernel
theorem k_ostM (K : PySem.W.Frag) {X : Cx} {o e : Expr} {to te : TE} {f : Str} {p' pos : Pos} (ho : PE X o to) (he : PE X e te) (hs : swapsWith e (some (.Attribute o f p')) pos.line X.env = pure false := by rfl) (h : X.K = K := by rfl) : PS X (.Assign [.Attribute o f p'] e pos) (tOst K f to te) := h ▸ ps_ost ho he hs
abbrev BindsI (K : PySem.W.Frag) (fd : FuncData) : Prop := Binds K fd ["self"] []
abbrev badMv : List (Str × V) := [("called", .str "BadMove")]
abbrev ErrM8 (P : Program) (K : PySem.W.Frag) (mg : Str → Option Value) (C f cc cda : Addr) (fd : FuncData) : Prop := ErrQ P K mg "BadMove" sIniM "BadMove.__init__" C f cc cda fd ["called"]
section
variable {P : Program} {w : World} {K : PySem.W.Frag} {mg : Str → Option Value} {base : Heap}
def sp_iniM (C : Addr) : Sp := fun vs H Q _ => ∃ a : Addr, vs = [.ref a] ∧ H a = some (exo a C none) ∧
  ∀ (d : Addr) (H' : Hp), H d = none → d ≠ a → H' a = some (exo a C (some d)) → H' d = some (exd d badMv) → (∀ b o, H b = some o → b ≠ a → H' b = some o) → Q .non H'
theorem ok_iniM {C f cc cda : Addr} {fd : FuncData} (R : ErrM8 P K mg C f cc cda fd) : FnOk P w K mg base CX0 3 f fd ["self"] (sp_iniM C) := by
  refine ini_ok (N := ["self", "__class__"]) R.M ns_iniM R.T R.S (by exact rfl) sup_iniM R.sup (fun vs H Q E h => ?_) (fun L => ⟨⟨_, by exact rfl⟩, by exact rfl, by exact rfl⟩) (fun A outer s H vs Q E hr h => ?_)
  · obtain ⟨a, rfl, _⟩ := h
    rfl
  · obtain ⟨a, rfl, ha, k⟩ := h
    refine ⟨⟨a, _, rfl, ha⟩, _, (pss_one (k_ostM K (pv 0) pe_str)), ?_⟩
    rw [show startF ["self", "__class__"] [V.ref a] [none] = [some (.ref a), none] from rfl]
    simp only [tOst, tSeq, tIfS, tNext, tRet, tRetN, tAsg, tDrop, tPar, tCons, tNil, tCB, tVar, tC, tOp, rI, rI0, rU, tTest, tB, tTup, tLst, gName, tIf, tAnd, tOr, tNot, tAndV, tOrV, tNotV, tUn, tCall, tChain, tSl, tNoPart, tPart, tBM, tBM0, tDGet, sDPut, tAugS, ipI, tAug, rIxT, rIxL, rMulK, rLenK, rLstK, tTruK, gTup, gCons, gNil, rEq, rNe, scal, tNever, rMulK, rGcd, L2.start, List.map, List.length, List.replicate, List.cons_append, List.nil_append, List.append_nil, List.set, List.set_cons_zero, List.set_cons_succ, List.getElem?_cons_succ, List.getElem?_cons_zero, Option.some.injEq, List.cons.injEq, V.int.injEq, V.str.injEq, V.bl.injEq, V.ref.injEq, and_true, true_and, exists_eq_left, exists_eq_left', exists_eq_right, exists_eq_right', exists_eq, exists_and_left, exists_and_right, and_assoc, exists_false, false_and, and_false, or_false, false_or, reduceCtorEq, Nat.reduceAdd, Nat.reduceSub, List.append_assoc, eq_self, if_true, if_false, Bool.false_eq_true, decide_eq_true_eq, List.length_cons, List.length_nil]
    refine ⟨C, R.T, R.no _ (by simp), Or.inl ⟨ha, fun dx hdx nda => ?_⟩⟩
    refine k dx _ hdx nda upd_same (by rw [upd_ne nda]; exact upd_same) fun b o e nb => ?_
    rw [upd_ne nb, upd_ne (ne_of_none e hdx)]
    exact e
/-! ### moves -/
def mpD (p : Pt × Pt) : PyData := .tuple [ptD p.1, ptD p.2]
def mvD (olds news : List Pt) : PyData := .tuple ((olds.zip news).map mpD)
theorem mpD_tup (p : Pt × Pt) : tupD (mpD p) = true := by simp [mpD, tupD, tupDs, ptD_tup]
theorem mps_tup : ∀ l : List (Pt × Pt), tupDs (l.map mpD) = true
  | [] => rfl
  | p :: l => by rw [List.map_cons, tupDs, mpD_tup, mps_tup l]; rfl
theorem mvD_tup (olds news : List Pt) : tupD (mvD olds news) = true := by rw [mvD, tupD]; exact mps_tup _
theorem mv_tk {H H' : Hp} {v : V} {olds news : List Pt} (h : Dp K H v (mvD olds news)) (t : Tk H H') : Dp K H' v (mvD olds news) := dp_tk t _ _ (mvD_tup _ _) h
theorem mv_of {H : Hp} {v : V} {olds news : List Pt} (h : Dp K H v (mvD olds news)) : ∃ m ws, v = .ref m ∧ H m = some (.tup ws) ∧ DpAll K H ws ((olds.zip news).map mpD) := by
  unfold mvD at h
  cases h with
  | tup h1 h2 => exact ⟨_, _, rfl, h1, h2⟩
theorem mp_of {H : Hp} {v : V} {p : Pt × Pt} (h : Dp K H v (mpD p)) : ∃ b u w', v = .ref b ∧ H b = some (.tup [u, w']) ∧ Dp K H u (ptD p.1) ∧ Dp K H w' (ptD p.2) := by
  unfold mpD at h
  cases h with
  | tup h1 h2 =>
    cases h2 with
    | cons a1 h3 =>
      cases h3 with
      | cons a2 h4 =>
        cases h4
        exact ⟨_, _, _, rfl, h1, a1, a2⟩
theorem putK_new {κ : Type} [DecidableEq κ] {kvs : List (κ × V)} {k : κ} {v : V} (h : k ∉ kvs.map (·.1)) : putK kvs k v = kvs ++ [(k, v)] := by
  unfold putK
  rw [if_neg]
  intro q
  obtain ⟨kv, h1, h2⟩ := List.any_eq_true.mp q
  exact h (List.mem_map.mpr ⟨kv, h1, of_decide_eq_true h2⟩)
/-- the table so far -/
def TabI (K : PySem.W.Frag) (H : Hp) (D : Addr) (olds news : List Pt) (i : Nat) (G : Hp) : Prop := Kp M0 H G ∧ ∃ kvs : List (List Key × V), G D = some (.dT kvs) ∧ kvs.map (·.1) = (olds.take i).map ptK ∧ DpAll K G (kvs.map (·.2)) ((news.take i).map ptD)
theorem tDcT_mv {v m : V} {c e : Option V} {H : Hp} {olds news : List Pt} {Q : VK} (dm : Dp K H m (mvD olds news)) (nd : olds.Nodup) (l : olds.length = news.length) (hlo : olds.length < 1000)
    (k : ∀ (D : Addr) (H' : Hp), H D = none → Kp M0 H H' → LedBy K H' D olds news → Q (.ref D) H') :
    tDcT (iTup K (tVar 1)) (gTup K 2 (gCons (gName 2) (gCons (gName 3) gNil))) (tVar 2) (tVar 3) [2, 3] [some v, some m, none, none, c, e] H Q := by
  obtain ⟨a, ws, rfl, ha, dw⟩ := mv_of dm
  have wl : ws.length = olds.length := by rw [dps_len dw, List.length_map, List.length_zip]; omega
  refine ⟨_, rfl, a, rfl, ⟨ws, sqT_mk ha⟩, fun D hD => ?_⟩
  refine dcT_tup (xs := ws) (TabI K H D olds news) ⟨Kp.new hD, [], upd_same, by simp, .nil⟩ (fun i G _ h => sqT_tk (Tk.of0 h.1) (sqT_mk ha)) (fun i u G hi h => ?_) (fun G h => ?_)
  · obtain ⟨kp, kvs, hd, e1, e2⟩ := h
    obtain ⟨d, e3, du⟩ := dps_get (dps_tk (Tk.of0 kp) _ _ (mps_tup _) dw) hi
    rw [List.getElem?_map] at e3
    cases e4 : (olds.zip news)[i]? with
    | none => rw [e4] at e3; cases e3
    | some p =>
      rw [e4] at e3
      cases e3
      obtain ⟨b, u1, u2, rfl, hb, d1, d2⟩ := mp_of du
      obtain ⟨o1, o2⟩ := List.getElem?_zip_eq_some.mp e4
      obtain ⟨kb, rfl, hkb⟩ := pt_tup d1
      have il := (List.getElem?_eq_some_iff.mp o1).1
      have kl : kvs.length = i := by
        have := congrArg List.length e1
        simp only [List.length_map, List.length_take] at this
        omega
      have fresh : ptK p.1 ∉ kvs.map (·.1) := fun q => by
        rw [e1] at q
        obtain ⟨y, hy, ey⟩ := List.mem_map.mp q
        have ey := ptK_inj ey
        subst ey
        obtain ⟨j, hj⟩ := List.getElem?_of_mem hy
        have jl := (List.getElem?_eq_some_iff.mp hj).1
        rw [List.length_take] at jl
        rw [List.getElem?_take_of_lt (by omega)] at hj
        have := (List.getElem?_inj (by omega) nd).mp (hj.trans o1.symm)
        omega
      simp only [tSeq, tIfS, tNext, tRet, tRetN, tAsg, tDrop, tPar, tCons, tNil, tCB, tVar, tC, tOp, rI, rI0, rU, tTest, tB, tTup, tLst, gName, tIf, tAnd, tOr, tNot, tAndV, tOrV, tNotV, tUn, tCall, tChain, tSl, tNoPart, tPart, tBM, tBM0, tDGet, sDPut, tAugS, ipI, tAug, rIxT, rIxL, rMulK, rLenK, rLstK, tTruK, gTup, gCons, gNil, rEq, rNe, scal, tNever, rMulK, rGcd, L2.start, List.map, List.length, List.replicate, List.cons_append, List.nil_append, List.append_nil, List.set, List.set_cons_zero, List.set_cons_succ, List.getElem?_cons_succ, List.getElem?_cons_zero, Option.some.injEq, List.cons.injEq, V.int.injEq, V.str.injEq, V.bl.injEq, V.ref.injEq, and_true, true_and, exists_eq_left, exists_eq_left', exists_eq_right, exists_eq_right', exists_eq, exists_and_left, exists_and_right, and_assoc, exists_false, false_and, and_false, or_false, false_or, reduceCtorEq, Nat.reduceAdd, Nat.reduceSub, List.append_assoc, eq_self, if_true, if_false, Bool.false_eq_true, decide_eq_true_eq, List.length_cons, List.length_nil]
      refine ⟨_, sqT_mk hb, rfl, _, _, rfl, _, _, rfl, rfl, rfl, _, rfl, _, rfl, _, DPut.t (k := ptK p.1) hd hkb (by rw [sizeLine_eq]; omega), kp.at hD, _, upd_same, ?_, ?_⟩
      · rw [putK_new fresh, List.map_append, e1, take_snoc o1, List.map_append]
        rfl
      · have tk : Tk G (upd G D (.dT (putK kvs (ptK p.1) u2))) := Tk.at hd rfl
        rw [putK_new fresh] at tk ⊢
        rw [List.map_append, take_snoc o2, List.map_append]
        exact dps_app (pts_tk e2 tk) (dps_one (dp_tk tk _ _ (ptD_tup _) d2))
  · obtain ⟨kp, kvs, hd, e1, e2⟩ := h
    rw [wl, List.take_length] at e1
    rw [wl, List.take_of_length_le (by omega)] at e2
    exact k D G hD kp ⟨⟨kvs, hd, e1, e2⟩, nd, l⟩
def sp_mv (K : PySem.W.Frag) (T : List (Addr × Str)) (C : Addr) (n : Nat) : Sp := fun vs H Q E => ∃ (v m : V) (x : Vl) (olds news : List Pt) (bo bn : Nat), vs = [v, m] ∧ Dp K H v (vlD x) ∧ VOk n bo x ∧ Nf x ∧ gN n bo ≤ 1900 ∧ vw x < 1000 ∧ Dp K H m (mvD olds news) ∧ PtsOk 4000 olds ∧ PtsOk bn news ∧ gN n bn ≤ 1900 ∧ olds.length = news.length ∧ olds.length < 1000 ∧ Tabs T H ∧
  ((∀ p ∈ supV x, p ∈ olds) → ∀ (y : V) (H' : Hp), Kt M0 H H' → Tabs T H' → Dp K H' y (vlD (movedV x olds news)) → Q y H') ∧
  ((¬ ∀ p ∈ supV x, p ∈ olds) → ∀ (d : Addr) (H' : Hp), H d = none → Kp M0 H H' → H' d = some (.xd badMv) → E (.ref C) (some d) H')
theorem ok_moved (W : Ds K mg) (B : Tbs W base) (n : Nat) {C fi cc cda : Addr} {fdi : FuncData} (R : ErrM8 P K mg C fi cc cda fdi) (bI : BindsI K fdi) : FnGX P w K mg base (3 * n + 9) W.f_moved W.fd_moved P_moved (sp_mv K B.T C n) := by
  refine fnGX_ok W.D_moved.F sc_moved (fun vs H Q E h => ?len) (fun cdv A outer s H vs Q E nr hr h => ?body)
  case len =>
    obtain ⟨v, m, x, olds, news, bo, bn, rfl, _⟩ := h
    rfl
  case body =>
    obtain ⟨v, m, x, olds, news, bo, bn, rfl, dx, ox, nf, hbo, hw, dm, oo, on, hbn, hl, hlo, tb, k1, k2⟩ := h
    have nd := sc_moved.nd
    have hu := hu_of hr
    have hu64 := hr.units
    have hu65 := hu65_of hr
    refine ⟨_, (pss_cons (ps_setDcT (i := 4) (own := [("old", 2), ("new", 3)]) (Nat.lt_of_succ_lt hu) rfl nd rfl rfl (swD_true rfl rfl rfl (by decide +kernel)) (i_tup K (pv 1)) (blkOk_by (N := N_moved) (sc := defScope s_moved) (by decide +kernel))
        (fun _ _ _ _ _ => (g_tup K (pg_tup (n := 2) rfl (pgs_cons (pg_name (i := 2) nd rfl (by first | exact Or.inl rfl | exact Or.inr rfl)) (pgs_cons (pg_name (i := 3) nd rfl (by first | exact Or.inl rfl | exact Or.inr rfl)) pgs_nil))))) (fun _ _ _ _ _ => (pv 2)) (fun _ _ _ _ _ => (pv 3)))
      (pss_cons (ps_for (passes_of rfl) rfl (i_tup K (pe_call (ok_support W n) (hr.mono (by omega)) rfl W.D_support.g W.D_support.F.kp W.D_support.b .nil pass0 (pa_cons (pv 0) pa_nil))) (pg_name (i := 5) nd rfl (by first | exact Or.inl rfl | exact Or.inr rfl))
          (pss_one (ps_if (pt_cmp (pc_dnotin hu (pv 5) (pv 4)) (by with_unfolding_all rfl)) (pss_one (ps_raise rfl (takes_of rfl rfl rfl rfl) (pmk_oex0 R.T R.iC R.tI (ok_iniM R) (hr.mono (by omega)) bI rfl R.g))) pss_nil)))
      (pss_one (ps_ret (peG_call (okLed W B n) nr (hr.mono (by omega)) rfl W.D_led.g W.D_led.F.kp W.D_led.b (pa_cons (pv 0) (pa_cons (pv 4) pa_nil))))))), ?_⟩
    have szL := sizeLine_eq
    have gbo := gN_ge n bo
    simp only [tSeq, tIfS, tNext, tRet, tRetN, tAsg, tDrop, tPar, tCons, tNil, tCB, tVar, tC, tOp, rI, rI0, rU, tTest, tB, tTup, tLst, gName, tIf, tAnd, tOr, tNot, tAndV, tOrV, tNotV, tUn, tCall, tChain, tSl, tNoPart, tPart, tBM, tBM0, tDGet, sDPut, tAugS, ipI, tAug, rIxT, rIxL, rMulK, rLenK, rLstK, tTruK, gTup, gCons, gNil, rEq, rNe, scal, tNever, rMulK, rGcd, L2.start, List.map, List.length, List.replicate, List.cons_append, List.nil_append, List.append_nil, List.set, List.set_cons_zero, List.set_cons_succ, List.getElem?_cons_succ, List.getElem?_cons_zero, Option.some.injEq, List.cons.injEq, V.int.injEq, V.str.injEq, V.bl.injEq, V.ref.injEq, and_true, true_and, exists_eq_left, exists_eq_left', exists_eq_right, exists_eq_right', exists_eq, exists_and_left, exists_and_right, and_assoc, exists_false, false_and, and_false, or_false, false_or, reduceCtorEq, Nat.reduceAdd, Nat.reduceSub, List.append_assoc, eq_self, if_true, if_false, Bool.false_eq_true, decide_eq_true_eq, List.length_cons, List.length_nil]
    refine tDcT_mv dm oo.asc.nodup hl hlo fun D H1 hD kp1 led => ?_
    refine tforT ?_
    simp only [tSeq, tIfS, tNext, tRet, tRetN, tAsg, tDrop, tPar, tCons, tNil, tCB, tVar, tC, tOp, rI, rI0, rU, tTest, tB, tTup, tLst, gName, tIf, tAnd, tOr, tNot, tAndV, tOrV, tNotV, tUn, tCall, tChain, tSl, tNoPart, tPart, tBM, tBM0, tDGet, sDPut, tAugS, ipI, tAug, rIxT, rIxL, rMulK, rLenK, rLstK, tTruK, gTup, gCons, gNil, rEq, rNe, scal, tNever, rMulK, rGcd, L2.start, List.map, List.length, List.replicate, List.cons_append, List.nil_append, List.append_nil, List.set, List.set_cons_zero, List.set_cons_succ, List.getElem?_cons_succ, List.getElem?_cons_zero, Option.some.injEq, List.cons.injEq, V.int.injEq, V.str.injEq, V.bl.injEq, V.ref.injEq, and_true, true_and, exists_eq_left, exists_eq_left', exists_eq_right, exists_eq_right', exists_eq, exists_and_left, exists_and_right, and_assoc, exists_false, false_and, and_false, or_false, false_or, reduceCtorEq, Nat.reduceAdd, Nat.reduceSub, List.append_assoc, eq_self, if_true, if_false, Bool.false_eq_true, decide_eq_true_eq, List.length_cons, List.length_nil]
    refine ⟨v, x, bo, rfl, dv_tk dx (Tk.of0 kp1), ox, by omega, hw, fun p H2 us kp2 hp2 dus => ?_⟩
    refine ⟨p, rfl, ⟨us, hp2⟩, ?_⟩
    obtain ⟨kvs, hd, _, _⟩ := led.ex
    have kp12 := kp1.trans kp2
    have led2 : LedBy K H2 D olds news := led.tk (by rw [hd]; exact kp2 _ _ hd fun z => z) (Tk.of0 kp2)
    have ul : us.length = (supV x).length := by rw [dps_len dus, List.length_map]
    refine for_tup (K := K) (a := p) (xs := us) (fun i σ H' => ∃ w5, σ = [some v, some m, none, none, some (.ref D), w5] ∧ H' = H2 ∧ ∀ y ∈ (supV x).take i, y ∈ olds) ⟨_, rfl, rfl, fun y hy => by simp at hy⟩ (fun i σ H' _ h => ?_) ?_ ?_
    · obtain ⟨_, _, rfl, _⟩ := h
      exact hp2
    · rintro i u σ H' hi ⟨w5, rfl, rfl, before⟩
      simp only [tSeq, tIfS, tNext, tRet, tRetN, tAsg, tDrop, tPar, tCons, tNil, tCB, tVar, tC, tOp, rI, rI0, rU, tTest, tB, tTup, tLst, gName, tIf, tAnd, tOr, tNot, tAndV, tOrV, tNotV, tUn, tCall, tChain, tSl, tNoPart, tPart, tBM, tBM0, tDGet, sDPut, tAugS, ipI, tAug, rIxT, rIxL, rMulK, rLenK, rLstK, tTruK, gTup, gCons, gNil, rEq, rNe, scal, tNever, rMulK, rGcd, L2.start, List.map, List.length, List.replicate, List.cons_append, List.nil_append, List.append_nil, List.set, List.set_cons_zero, List.set_cons_succ, List.getElem?_cons_succ, List.getElem?_cons_zero, Option.some.injEq, List.cons.injEq, V.int.injEq, V.str.injEq, V.bl.injEq, V.ref.injEq, and_true, true_and, exists_eq_left, exists_eq_left', exists_eq_right, exists_eq_right', exists_eq, exists_and_left, exists_and_right, and_assoc, exists_false, false_and, and_false, or_false, false_or, reduceCtorEq, Nat.reduceAdd, Nat.reduceSub, List.append_assoc, eq_self, if_true, if_false, Bool.false_eq_true, decide_eq_true_eq, List.length_cons, List.length_nil]
      obtain ⟨d, e1, du⟩ := dps_get dus hi
      rw [List.getElem?_map] at e1
      cases e2 : (supV x)[i]? with
      | none => rw [e2] at e1; cases e1
      | some y =>
        rw [e2] at e1
        cases e1
        obtain ⟨o, g, ho⟩ := led2.has du
        refine ⟨_, rfl, _, rfl, D, o, rfl, g, _, rfl, ?_⟩
        rw [ho]
        by_cases my : y ∈ olds
        · rw [if_neg (by simp [my])]
          refine ⟨rfl, fun z hz => ?_⟩
          rw [take_snoc e2] at hz
          rcases List.mem_append.mp hz with q | q
          · exact before z q
          · rw [List.mem_singleton.mp q]; exact my
        · rw [if_pos (by simp [my])]
          refine ⟨by decide, fun a ha => ?_⟩
          refine ⟨a, rfl, upd_same, fun d H' hdn nda h1 h2 h3 => ⟨rfl, d, _, h1, h2, ?_⟩⟩
          rw [upd_ne nda] at hdn
          refine ⟨hdn, k2 (fun all => my (all y (List.mem_of_getElem? e2))) d _ ?_ (kp12.trans fun b ob e _ => ?_) upd_same⟩
          · cases q : H d with
            | none => rfl
            | some ob => rw [kp12 _ _ q fun z => z] at hdn; cases hdn
          · have nba := ne_of_none e ha
            rw [upd_ne (ne_of_none e hdn), del_ne nba]
            exact h3 b ob (by rw [upd_ne nba]; exact e) nba
    · rintro σ H' ⟨w5, rfl, rfl, all⟩
      rw [ul, List.take_length] at all
      simp only [tSeq, tIfS, tNext, tRet, tRetN, tAsg, tDrop, tPar, tCons, tNil, tCB, tVar, tC, tOp, rI, rI0, rU, tTest, tB, tTup, tLst, gName, tIf, tAnd, tOr, tNot, tAndV, tOrV, tNotV, tUn, tCall, tChain, tSl, tNoPart, tPart, tBM, tBM0, tDGet, sDPut, tAugS, ipI, tAug, rIxT, rIxL, rMulK, rLenK, rLstK, tTruK, gTup, gCons, gNil, rEq, rNe, scal, tNever, rMulK, rGcd, L2.start, List.map, List.length, List.replicate, List.cons_append, List.nil_append, List.append_nil, List.set, List.set_cons_zero, List.set_cons_succ, List.getElem?_cons_succ, List.getElem?_cons_zero, Option.some.injEq, List.cons.injEq, V.int.injEq, V.str.injEq, V.bl.injEq, V.ref.injEq, and_true, true_and, exists_eq_left, exists_eq_left', exists_eq_right, exists_eq_right', exists_eq, exists_and_left, exists_and_right, and_assoc, exists_false, false_and, and_false, or_false, false_or, reduceCtorEq, Nat.reduceAdd, Nat.reduceSub, List.append_assoc, eq_self, if_true, if_false, Bool.false_eq_true, decide_eq_true_eq, List.length_cons, List.length_nil]
      refine ⟨v, D, x, olds, news, bo, bn, rfl, dv_tk dx (Tk.of0 kp12), ox, nf, hbo, hw, led2, oo, on, hbn, by omega, all, tabs_kp tb kp12, fun y H3 k3 t3 d3 => k1 all y H3 ((Kt.of kp12).trans k3) t3 d3⟩
end
end G
set_option Elab.async false
set_option linter.all false
set_option maxRecDepth 100000
set_option maxHeartbeats 4000000
set_option exponentiation.threshold 10000
namespace G
open PySem L2 LamX NdefX
section
variable {P : Program} {w : World} {K : PySem.W.Frag} {mg : Str → Option Value} {base : Heap}
theorem gN_pow : ∀ (n b : Nat), gN n b + 12 = 2 ^ n * (b + 12)
  | 0, b => by simp [gN]
  | n + 1, b => by rw [gN, gN_pow n (gB b), Nat.pow_succ, Nat.mul_assoc, show gB b + 12 = 2 * (b + 12) by unfold gB; omega]
theorem gN_28 {n b : Nat} (h : gN n b ≤ 1900) : n ≤ 28 := by
  by_cases z : n ≤ 28
  · exact z
  · have h1 := gN_pow n b
    have h2 : 2 ^ 28 ≤ 2 ^ n := Nat.pow_le_pow_right (by decide) (by omega)
    have h3 : 2 ^ n * 12 ≤ 2 ^ n * (b + 12) := Nat.mul_le_mul_left _ (by omega)
    have : (2 : Nat) ^ 28 = 268435456 := by decide
    omega
theorem PtsOk.sub {b : Nat} {l m : List Pt} (h : PtsOk b l) (s : m.Sublist l) : PtsOk b m := ⟨fun x hx => h.ok x (s.subset hx), fun x hx => h.sz x (s.subset hx), h.asc.sublist s⟩
/-- elements known by a promise alone -/
theorem lcLp {s : Nat} {te : TE} {σ : L2.St} {H1 : Hp} {Q : VK} {R : Hp → Hp → Prop} {I : Hp → Prop} {a : Addr} {xs : List V} (kr : KR R I) (ds : List PyData) (Pr : PyData → Prop) (i1 : I H1) (hn : ds.length < sizeLine) (hx : ∀ H, R H1 H → I H → SqL K H a xs) (hxs : DpAll K H1 xs ds) (hdu : tupDs ds = true) (ht : ∀ e, Pr e → tupD e = true)
    (hte : ∀ (i : Nat) (d : PyData) (x : V) (H : Hp), ds[i]? = some d → Dp K H x d → R H1 H → I H → ∀ Q' : VK, (∀ y H4 e, R H H4 → I H4 → Pr e → Dp K H4 y e → Q' y H4) → te ((σ.set s none).set s (some x)) H Q')
    (hq : ∀ D H vs es, H1 D = none → R H1 H → I H → H D = some (.lst vs) → DpAll K H vs es → es.length = ds.length → (∀ e ∈ es, Pr e) → Q (.ref D) H) : LcL K s tYes te σ Q (.ref a) H1 := by
  refine ⟨a, rfl, ⟨xs, hx H1 (kr.refl H1) i1⟩, fun D hD => ?_⟩
  have xl := dps_len hxs
  refine lc_list (xs := xs) (Qd := fun H => Q (.ref D) H) (fun i H => ∃ vs es, R H1 H ∧ I H ∧ H D = some (.lst vs) ∧ DpAll K H vs es ∧ es.length = i ∧ ∀ e ∈ es, Pr e) ⟨[], [], kr.at_ (kr.refl H1) hD, kr.inew i1 hD, upd_same, .nil, rfl, fun e h => by simp at h⟩ (fun i H _ ⟨_, _, k, ih, _⟩ => hx H k ih) (fun i x H hi hp => ?_) (fun H hp => ?_)
  · obtain ⟨vs, es, k, ih, hd, ha, hl, hP⟩ := hp
    obtain ⟨d, e1, e2⟩ := dps_get (dps_tk (kr.tk k) _ _ hdu hxs) hi
    refine ⟨wipe1 σ s _, ?_⟩
    show te _ H _
    refine hte i d x H e1 e2 k ih _ fun y H4 e k4 i4 p4 d4 => ?_
    have hd4 : H4 D = some (.lst vs) := kr.lst k4 hd
    have lt := (List.getElem?_eq_some_iff.mp e1).1
    refine ⟨vs, hd4, by rw [dps_len ha]; omega, vs ++ [y], es ++ [e], kr.at_ (kr.trans k k4) hD, kr.ilst i4 hd4, upd_same, ?_, by simp [hl], fun z hz => ?_⟩
    · exact dps_app (dps_tk ((kr.tk k4).trans (Tk.lst hd4)) _ _ (tupDs_all.mpr fun z hz => ht z (hP z hz)) ha) (dps_one (dp_tk (Tk.lst hd4) _ y (ht _ p4) d4))
    · rcases List.mem_append.mp hz with z | z
      · exact hP _ z
      · rw [List.mem_singleton.mp z]; exact p4
  · obtain ⟨vs, es, k, ih, hd, ha, hl, hP⟩ := hp
    exact hq D H vs es hD k ih hd ha (by omega) hP
def isB (e : PyData) : Prop := ∃ b, e = .bool b
theorem isB_all : ∀ {es : List PyData}, (∀ e ∈ es, isB e) → ∃ bs : List Bool, es = bs.map .bool
  | [], _ => ⟨[], rfl⟩
  | e :: es, h => by
    obtain ⟨bs, rfl⟩ := isB_all (es := es) fun x hx => h x (by simp [hx])
    obtain ⟨b, rfl⟩ := h e (by simp)
    exact ⟨b :: bs, rfl⟩
theorem isB_tup (e : PyData) (h : isB e) : tupD e = true := by obtain ⟨b, rfl⟩ := h; rfl
/-- x in told -/
theorem inVl {H : Hp} {v : V} {p : Addr} {us : List V} {z : Vl} {fs : List Vl} {n b m c : Nat} {Q : VK} (dz : Dp K H v (vlD z)) (oz : VOk m c z) (hp : H p = some (.lst us)) (du : DpAll K H us (fs.map vlD)) (of : ∀ f ∈ fs, VOk n b f) (hn : n ≤ 28) (hm : m ≤ 28) (q : ∀ t, Q (.bl t) H) : rInD K v (.ref p) H Q :=
  ⟨_, _, dz.up, .lst (sqL_mk hp) du.up, vl_shaped oz hm, vlL_shaped of hn, q _⟩
/-- [one for one in l if one != x] -/
theorem lcNePt {s j : Nat} {σ : L2.St} {H : Hp} {Q : VK} {a : Addr} {us : List V} {l : List Pt} {x : Pt} {u : V} (hs : ∀ x, ((σ.set s none).set s (some x))[s]? = some (some x)) (hj : ∀ x, ((σ.set s none).set s (some x))[j]? = some (some u))
    (sa : SqL K H a us) (da : DpAll K H us (l.map ptD)) (du : Dp K H u (ptD x)) (hn : l.length < 100000)
    (k : ∀ D H' vs, H D = none → Kp M0 H H' → H' D = some (.lst vs) → DpAll K H' vs ((l.filter fun y => decide (y ≠ x)).map ptD) → Q (.ref D) H') : LcL K s (tTest (tOp (rNeD K) (tVar s) (tVar j))) (tVar s) σ Q (.ref a) H := by
  refine lcL (l.map ptD) (ptB fun y => decide (y ≠ x)) id (by rw [List.length_map, sizeLine_eq]; omega) sa da (ptDs_tup _) (fun d h _ => tupDs_all.mp (ptDs_tup _) d h) (fun i d z H4 e dz k4 Q' q => ?_) (fun i d z H4 e _ dz k4 Q' q => ⟨z, hs z, q _ _ (Kp.refl _) dz⟩) fun D H' vs hD k1 hd ha => ?_
  · obtain ⟨y, hy, rfl⟩ := List.mem_map.mp (List.mem_of_getElem? e)
    refine ⟨z, hs z, u, hj z, neD dz.up (dp_tk (Tk.of0 k4) _ _ (ptD_tup _) du).up (ptD_shaped _) (ptD_shaped _) (ptD_eqv _ _) ⟨_, rfl, ?_⟩⟩
    have e3 : (!decide (y = x)) = decide (y ≠ x) := by simp
    rw [e3]
    exact q _ (Kp.refl _)
  · rw [filter_ptB, List.map_id] at ha
    exact k D H' vs hD k1 hd ha
/-! ### _law_made -/
def sp_made (K : PySem.W.Frag) (T : List (Addr × Str)) (n : Nat) : Sp := fun vs H Q _ => ∃ (a c : Addr) (pa va : List V) (points : List Pt) (vals : List Vl) (bo b : Nat), vs = [.ref a, .ref c] ∧ H a = some (.lst pa) ∧ H c = some (.lst va) ∧ DpAll K H pa (points.map ptD) ∧ DpAll K H va (vals.map vlD) ∧ PtsOk b points ∧ points.length < 900 ∧
  (∀ v ∈ vals, VOk n bo v) ∧ gN n bo ≤ 1900 ∧ gN n (gB b) ≤ 1900 ∧ vws vals < 900 ∧ Tabs T H ∧
  ∀ (y : V) (H' : Hp) (ps : List Pt) (ms : List Vl), Kt M0 H H' → Tabs T H' → Dp K H' y (vlD (.set ps ms)) → PtsOk b ps → ps.length ≤ points.length → (∀ m ∈ ms, VOk n (gB b) m) → vws ms ≤ vws vals → ms.length ≤ vals.length → Nf (.set ps ms) → Q y H'
/-- told so far -/
structure Told (K : PySem.W.Frag) (n b W N : Nat) (pts : List Pt) (p : Addr) (us : List V) (fs : List Vl) (H : Hp) : Prop where
  nf : ∀ f ∈ fs, Nf f ∧ placedV f pts = f
  hp : H p = some (.lst us)
  du : DpAll K H us (fs.map vlD)
  ok : ∀ f ∈ fs, VOk n b f
  w : vws fs ≤ W
  l : fs.length ≤ N
theorem Told.kt {n b W N : Nat} {pts : List Pt} {p : Addr} {us : List V} {fs : List Vl} {H H' : Hp} (h : Told K n b W N pts p us fs H) (k : Kt M0 H H') : Told K n b W N pts p us fs H' := ⟨h.nf, k.lst h.hp fun z => z, dvs_tk h.du k.tk0, h.ok, h.w, h.l⟩
theorem Told.up {n b W N W' N' : Nat} {pts : List Pt} {p : Addr} {us : List V} {fs : List Vl} {H : Hp} (h : Told K n b W N pts p us fs H) (hw : W ≤ W') (hn : N ≤ N') : Told K n b W' N' pts p us fs H := ⟨h.nf, h.hp, h.du, h.ok, Nat.le_trans h.w hw, Nat.le_trans h.l hn⟩
theorem Told.nil {n b W N : Nat} {pts : List Pt} {p : Addr} {H : Hp} (h : H p = some (.lst [])) : Told K n b W N pts p [] [] H := ⟨fun f hf => by simp at hf, h, .nil, fun f hf => by simp at hf, by simp [vws], by simp⟩
theorem Told.snoc {n b W N : Nat} {pts : List Pt} {p q : Addr} {us : List V} {fs : List Vl} {H H' : Hp} {u : V} {z : Vl} (h : Told K n b W N pts p us fs H) (k : Kt M0 H H') (hq : H' q = some (.lst (us ++ [u]))) (dz : Dp K H u (vlD z)) (oz : VOk n b z) (nz : Nf z ∧ placedV z pts = z) : Told K n b (W + vw z) (N + 1) pts q (us ++ [u]) (fs ++ [z]) H' := by
  refine ⟨fun f hf => ?_, hq, ?_, fun f hf => ?_, ?_, ?_⟩
  · rcases List.mem_append.mp hf with y | y
    · exact h.nf f y
    · rw [List.mem_singleton.mp y]; exact nz
  · rw [List.map_append]; exact dps_app (dvs_tk h.du k.tk0) (dps_one (dv_tk dz k.tk0))
  · rcases List.mem_append.mp hf with y | y
    · exact h.ok f y
    · rw [List.mem_singleton.mp y]; exact oz
  · rw [vws_app]; have := h.w; simp only [vws]; omega
  · rw [List.length_append]; have := h.l; simp; omega
def MadeA (K : PySem.W.Frag) (T : List (Addr × Str)) (n b : Nat) (HK : Hp) (l c : Addr) (vals : List Vl) (points : List Pt) (i : Nat) (σ : L2.St) (H' : Hp) : Prop :=
  ∃ (p : Addr) (us : List V) (fs : List Vl) (v3 v4 : Option V), σ = [some (.ref l), some (.ref c), some (.ref p), v3, v4, none, none, none, none, none] ∧ Kt M0 HK H' ∧ Tabs T H' ∧ Told K n (gB b) (vws (vals.take i)) i points p us fs H'
def MadeB (K : PySem.W.Frag) (T : List (Addr × Str)) (n b : Nat) (HK : Hp) (c : Addr) (W N L : Nat) (σ : L2.St) (H' : Hp) : Prop :=
  ∃ (lp p : Addr) (pw us : List V) (ps : List Pt) (fs : List Vl) (v3 v4 v5 v7 v8 v9 : Option V), σ = [some (.ref lp), some (.ref c), some (.ref p), v3, v4, v5, none, v7, v8, v9] ∧ Kt M0 HK H' ∧ Tabs T H' ∧ H' lp = some (.lst pw) ∧ DpAll K H' pw (ps.map ptD) ∧ PtsOk b ps ∧ ps.length ≤ L ∧ Told K n (gB b) W N ps p us fs H'
def MadeC (K : PySem.W.Frag) (T : List (Addr × Str)) (n b : Nat) (HK : Hp) (c p ot : Addr) (v3 v5 : Option V) (fs : List Vl) (os : List Pt) (i : Nat) (σ : L2.St) (H' : Hp) : Prop :=
  ∃ (q : Addr) (us : List V) (gs : List Vl) (v4 v8 : Option V), σ = [some (.ref ot), some (.ref c), some (.ref p), v3, v4, v5, none, some (.ref ot), v8, some (.ref q)] ∧ Kt M0 HK H' ∧ Tabs T H' ∧ Told K n (gB b) (vws (fs.take i)) i os q us gs H'
theorem ok__law_made (W : Ds K mg) (B : Tbs W base) (n : Nat) : FnG P w K mg base (n + 8) W.f__law_made W.fd__law_made P__law_made (sp_made K B.T n) := by
  refine fnG_okC W.D__law_made.F B.made.code sc__law_made (fun vs H Q E h => ?len) (fun A outer s H vs Q E nr hr h => ?body)
  case len =>
    obtain ⟨a, c, pa, va, points, vals, bo, b, rfl, _⟩ := h
    rfl
  case body =>
    obtain ⟨a, c, pa, va, points, vals, bo, b, rfl, sa, sc, da, dc, op, hl, ov, hbo, hg, hw, tb, k⟩ := h
    have nd := sc__law_made.nd
    have hu := hu_of hr
    have hu64 := hr.units
    have hu65 := hu65_of hr
    refine ⟨_, (pss_cons (ps_asg (pe_tup (pa_cons (pe_callTy (c_list K) (by rfl) W.T.b_list (by decide +kernel) (pa_cons (pv 0) pa_nil)) (pa_cons (pe_lst pa_nil) pa_nil))) (g_tup K (pg_tup (n := 2) rfl (pgs_cons (pg_name (i := 0) nd rfl (by first | exact Or.inl rfl | exact Or.inr rfl)) (pgs_cons (pg_name (i := 2) nd rfl (by first | exact Or.inl rfl | exact Or.inr rfl)) pgs_nil)))))
  (pss_cons (ps_for PassesOwn.never rfl (i_list K (pv 1)) (pg_name (i := 3) nd rfl (by first | exact Or.inl rfl | exact Or.inr rfl))
     (pss_cons (ps_set (i := 4) nd rfl (by first | exact Or.inl rfl | exact Or.inr rfl) (peG_call (ok__law_placed W B n) nr (hr.mono (by first | decide | omega)) rfl W.D__law_placed.g W.D__law_placed.F.kp W.D__law_placed.b (pa_cons (pv 3) (pa_cons (pv 0) pa_nil))))
      (pss_one (ps_set (i := 2) nd rfl (by first | exact Or.inl rfl | exact Or.inr rfl) (pe_ifExp (pt_cmpR (k_inD K hu65) (pv 4) (pv 2) (by with_unfolding_all rfl)) (pv 2) (pe_op op_cat (pv 2) (pe_lst (pa_cons (pv 4) pa_nil))))))))
  (pss_cons (ps_for PassesOwn.never rfl (i_list K (pe_callTy (c_list K) (by rfl) W.T.b_list (by decide +kernel) (pa_cons (pv 0) pa_nil))) (pg_name (i := 5) nd rfl (by first | exact Or.inl rfl | exact Or.inr rfl))
     (pss_cons (ps_set (i := 7) nd rfl (by first | exact Or.inl rfl | exact Or.inr rfl) (pe_lc (own := [("one", 6)]) rfl nd (i_list K (pv 0)) (blkOk_by (N := N__law_made) (sc := defScope s__law_made) (by decide +kernel)) (fun _ _ _ _ _ => (pg_name (i := 6) nd rfl (by first | exact Or.inl rfl | exact Or.inr rfl))) (fun _ _ _ _ _ => (pts_one (pt_cmpR (k_neD K hu64) (pv 6) (pv 5) (nomark _)))) (fun _ _ _ _ _ => (pv 6))))
      (pss_one (ps_if (pt_val (pe_callB (c_all K rfl) (by rfl) W.T.b_all (by decide +kernel) (pa_cons (pe_lc (own := [("member", 8)]) rfl nd (i_list K (pv 2)) (blkOk_by (N := N__law_made) (sc := defScope s__law_made) (by decide +kernel)) (fun _ _ _ _ _ => (pg_name (i := 8) nd rfl (by first | exact Or.inl rfl | exact Or.inr rfl))) (fun _ _ _ _ _ => pts_nil) (fun _ _ _ _ _ => (pe_callB (c_all K rfl) (by rfl) W.T.b_all (by decide +kernel) (pa_cons (pe_lc (own := [("one", 6)]) rfl nd (i_list K (peG_call (ok__law_bundle W B n) nr (hr.mono (by first | decide | omega)) rfl W.D__law_bundle.g W.D__law_bundle.F.kp W.D__law_bundle.b (pa_cons (pv 8) (pa_cons (pv 7) (pa_cons (pv 5) pa_nil))))) (blkOk_by (by with_unfolding_all rfl)) (fun _ _ _ _ _ => (pg_name (i := 6) nd rfl (by first | exact Or.inl rfl | exact Or.inr rfl))) (fun _ _ _ _ _ => pts_nil) (fun _ _ _ _ _ => (pe_cmpR (k_inD K hu65) (pv 6) (pv 2) (by with_unfolding_all rfl)))) pa_nil)))) pa_nil)))
         (pss_cons (ps_par (i := 0) (j := 9) rfl nd rfl rfl (by decide) rfl rfl (pa_cons (pv 7) (pa_cons (pe_lst pa_nil) pa_nil)) (by rfl))
          (pss_cons (ps_for PassesOwn.never rfl (i_list K (pv 2)) (pg_name (i := 8) nd rfl (by first | exact Or.inl rfl | exact Or.inr rfl))
             (pss_cons (ps_set (i := 4) nd rfl (by first | exact Or.inl rfl | exact Or.inr rfl) (peG_call (ok__law_placed W B n) nr (hr.mono (by first | decide | omega)) rfl W.D__law_placed.g W.D__law_placed.F.kp W.D__law_placed.b (pa_cons (pv 8) (pa_cons (pv 7) pa_nil))))
              (pss_one (ps_set (i := 9) nd rfl (by first | exact Or.inl rfl | exact Or.inr rfl) (pe_ifExp (pt_cmpR (k_inD K hu65) (pv 4) (pv 9) (by with_unfolding_all rfl)) (pv 9) (pe_op op_cat (pv 9) (pe_lst (pa_cons (pv 4) pa_nil))))))))
          (pss_one (ps_set (i := 2) nd rfl (by first | exact Or.inl rfl | exact Or.inr rfl) (pv 9)))))
         pss_nil))))
  (pss_one (ps_ret (pe_tup (pa_cons pe_str (pa_cons (pe_callTy (c_tuple K) (by rfl) W.T.b_tuple (by decide +kernel) (pa_cons (pv 0) pa_nil)) (pa_cons (pe_callTy (c_tuple K) (by rfl) W.T.b_tuple (by decide +kernel) (pa_cons (pe_sortedLam (T := B.T) (x := "one") (k := n + 3) (by rfl) W.T.b_sorted (pv 2) B.made.tb rfl B.made.mem B.made.uni (hr.mono (by first | decide | omega)) (nscope_by (by decide +kernel)) (by rfl) (by rfl) (fun _ _ _ _ => by rfl) nr (fun _ _ _ _ hr nr => (pe_callTy SkE.call_str_str (by rfl) W.T.b_str (by decide +kernel) (pa_cons (peG_call (ok__law_text W n) nr (hr.mono (by first | decide | omega)) rfl W.D__law_text.g W.D__law_text.F.kp W.D__law_text.b (pa_cons (pv 0) pa_nil)) pa_nil)))) pa_nil)) pa_nil))))))))), ?_⟩
    simp only [tSeq, tIfS, tNext, tRet, tRetN, tAsg, tDrop, tPar, tCons, tNil, tCB, tVar, tC, tOp, rI, rI0, rU, tTest, tB, tTup, tLst, gName, tIf, tAnd, tOr, tNot, tAndV, tOrV, tNotV, tUn, tCall, tChain, tSl, tNoPart, tPart, tBM, tBM0, tDGet, sDPut, tAugS, ipI, tAug, rIxT, rIxL, rMulK, rLenK, rLstK, tTruK, gTup, gCons, gNil, rEq, rNe, scal, tNever, rMulK, rGcd, L2.start, List.map, List.length, List.replicate, List.cons_append, List.nil_append, List.append_nil, List.set, List.set_cons_zero, List.set_cons_succ, List.getElem?_cons_succ, List.getElem?_cons_zero, Option.some.injEq, List.cons.injEq, V.int.injEq, V.str.injEq, V.bl.injEq, V.ref.injEq, and_true, true_and, exists_eq_left, exists_eq_left', exists_eq_right, exists_eq_right', exists_eq, exists_and_left, exists_and_right, and_assoc, exists_false, false_and, and_false, or_false, false_or, reduceCtorEq, Nat.reduceAdd, Nat.reduceSub, List.append_assoc, eq_self, if_true, if_false, Bool.false_eq_true, decide_eq_true_eq, List.length_cons, List.length_nil]
    have n28 := gN_28 hg
    have bl : gB b ≤ 1900 := Nat.le_trans (gN_ge n (gB b)) hg
    have bb : b ≤ 944 := by unfold gB at bl; omega
    have vl : va.length = vals.length := by rw [dps_len dc, List.length_map]
    have vsl := vws_len vals
    refine ⟨pa, Or.inl (sqL_mk sa), fun l hl0 => ⟨by decide, fun p hp0 => ⟨by decide, fun t ht0 => ⟨_, sqT_mk upd_same, rfl, _, _, rfl, _, _, rfl, rfl, ?_⟩⟩⟩⟩
    generalize hH3 : upd (upd (upd H l (.lst pa)) p (.lst [])) t (.tup [.ref l, .ref p]) = H3
    have k3 : Kp M0 H H3 := by rw [← hH3]; exact ((Kp.new hl0).trans (Kp.new hp0)).trans (Kp.new ht0)
    have hl3 : H3 l = some (.lst pa) := by
      have e1 : upd (upd H l (.lst pa)) p (.lst []) l = some (.lst pa) := by rw [upd_ne (ne_of_none upd_same hp0)]; exact upd_same
      rw [← hH3, upd_ne (ne_of_none e1 ht0)]; exact e1
    have hp3 : H3 p = some (.lst []) := by rw [← hH3, upd_ne (ne_of_none upd_same ht0)]; exact upd_same
    have tb3 := tabs_kp tb k3
    have sc3 := k3 _ _ sc fun z => z
    have dc3 := dvs_tk dc (Tk.of0 k3)
    have da3 := pts_tk da (Tk.of0 k3)
    clear hH3
    refine tforL ?_
    simp only [tSeq, tIfS, tNext, tRet, tRetN, tAsg, tDrop, tPar, tCons, tNil, tCB, tVar, tC, tOp, rI, rI0, rU, tTest, tB, tTup, tLst, gName, tIf, tAnd, tOr, tNot, tAndV, tOrV, tNotV, tUn, tCall, tChain, tSl, tNoPart, tPart, tBM, tBM0, tDGet, sDPut, tAugS, ipI, tAug, rIxT, rIxL, rMulK, rLenK, rLstK, tTruK, gTup, gCons, gNil, rEq, rNe, scal, tNever, rMulK, rGcd, L2.start, List.map, List.length, List.replicate, List.cons_append, List.nil_append, List.append_nil, List.set, List.set_cons_zero, List.set_cons_succ, List.getElem?_cons_succ, List.getElem?_cons_zero, Option.some.injEq, List.cons.injEq, V.int.injEq, V.str.injEq, V.bl.injEq, V.ref.injEq, and_true, true_and, exists_eq_left, exists_eq_left', exists_eq_right, exists_eq_right', exists_eq, exists_and_left, exists_and_right, and_assoc, exists_false, false_and, and_false, or_false, false_or, reduceCtorEq, Nat.reduceAdd, Nat.reduceSub, List.append_assoc, eq_self, if_true, if_false, Bool.false_eq_true, decide_eq_true_eq, List.length_cons, List.length_nil]
    refine ⟨c, rfl, ⟨va, sqL_mk sc3⟩, ?_⟩
    refine for_list (K := K) (a := c) (xs := va) (MadeA K B.T n b H3 l c vals points) ⟨p, [], [], none, none, rfl, Kt.refl _, tb3, .nil hp3⟩ (fun i σ H' _ h => ?_) ?_ ?_
    · obtain ⟨p, us, fs, v3, v4, _, k4, _⟩ := h
      exact sqL_mk (k4.lst sc3 fun z => z)
    · rintro i y σ H' hi ⟨p, us, fs, v3, v4, rfl, k4, t4, to⟩
      simp only [tSeq, tIfS, tNext, tRet, tRetN, tAsg, tDrop, tPar, tCons, tNil, tCB, tVar, tC, tOp, rI, rI0, rU, tTest, tB, tTup, tLst, gName, tIf, tAnd, tOr, tNot, tAndV, tOrV, tNotV, tUn, tCall, tChain, tSl, tNoPart, tPart, tBM, tBM0, tDGet, sDPut, tAugS, ipI, tAug, rIxT, rIxL, rMulK, rLenK, rLstK, tTruK, gTup, gCons, gNil, rEq, rNe, scal, tNever, rMulK, rGcd, L2.start, List.map, List.length, List.replicate, List.cons_append, List.nil_append, List.append_nil, List.set, List.set_cons_zero, List.set_cons_succ, List.getElem?_cons_succ, List.getElem?_cons_zero, Option.some.injEq, List.cons.injEq, V.int.injEq, V.str.injEq, V.bl.injEq, V.ref.injEq, and_true, true_and, exists_eq_left, exists_eq_left', exists_eq_right, exists_eq_right', exists_eq, exists_and_left, exists_and_right, and_assoc, exists_false, false_and, and_false, or_false, false_or, reduceCtorEq, Nat.reduceAdd, Nat.reduceSub, List.append_assoc, eq_self, if_true, if_false, Bool.false_eq_true, decide_eq_true_eq, List.length_cons, List.length_nil]
      obtain ⟨d, e1, dy⟩ := dps_get (dvs_tk dc3 k4.tk0) hi
      rw [List.getElem?_map] at e1
      cases e2 : vals[i]? with
      | none => rw [e2] at e1; cases e1
      | some z =>
        rw [e2] at e1
        cases e1
        have mz := List.mem_of_getElem? e2
        have wz := vw_mem mz
        refine ⟨y, l, z, pa, points, bo, b, rfl, dy, ov z mz, hbo, by omega, k4.lst hl3 fun z => z, pts_tk da3 k4.tk0, op, hg, by omega, t4, fun y2 H5 k5 t5 d5 => ?_⟩
        obtain ⟨po1, po2⟩ := placed_ok (points := points) (ov z mz) op (by omega)
        have to5 := to.kt k5
        have wt : vws (vals.take (i + 1)) = vws (vals.take i) + vw z := by rw [take_snoc e2, vws_app]; simp [vws]
        refine inVl d5 po1 to5.hp to5.du to5.ok n28 n28 fun tt => ⟨_, rfl, ?_⟩
        cases tt with
        | true =>
          rw [if_pos rfl]
          exact ⟨p, us, fs, _, _, rfl, k4.trans k5, t5, to5.up (by omega) (by omega)⟩
        | false =>
          rw [if_neg (by simp)]
          refine ⟨by decide, fun q1 hq1 => ?_⟩
          have k51 := Kt.new (M := M0) (o := .lst [y2]) hq1
          have usl : us.length = fs.length := by rw [dps_len to5.du, List.length_map]
          have il := to5.l
          have ilt := (List.getElem?_eq_some_iff.mp e2).1
          refine ⟨p, q1, us, [y2], rfl, rfl, k51.lst to5.hp fun z => z, upd_same, by rw [sizeLine_eq]; simp; omega, fun q2 hq2 => ?_⟩
          have k52 := k51.trans (Kt.new (M := M0) (o := .lst (us ++ [y2])) hq2)
          have := to5.snoc k52 upd_same d5 po1 ⟨nf_placed (ov z mz) op (by omega), placed_twice (ov z mz) op (by omega)⟩
          rw [po2] at this
          exact ⟨q2, us ++ [y2], _, _, _, rfl, (k4.trans k5).trans k52, tabs_new (tabs_new t5 hq1) hq2, this.up (by omega) (by omega)⟩
    · rintro σ H4 ⟨p, us, fs, v3, v4, rfl, k4, t4, to0⟩
      have to := to0.up (W' := vws vals) (N' := vals.length) (by rw [vl, List.take_length]; exact Nat.le_refl _) (by omega)
      simp only [tSeq, tIfS, tNext, tRet, tRetN, tAsg, tDrop, tPar, tCons, tNil, tCB, tVar, tC, tOp, rI, rI0, rU, tTest, tB, tTup, tLst, gName, tIf, tAnd, tOr, tNot, tAndV, tOrV, tNotV, tUn, tCall, tChain, tSl, tNoPart, tPart, tBM, tBM0, tDGet, sDPut, tAugS, ipI, tAug, rIxT, rIxL, rMulK, rLenK, rLstK, tTruK, gTup, gCons, gNil, rEq, rNe, scal, tNever, rMulK, rGcd, L2.start, List.map, List.length, List.replicate, List.cons_append, List.nil_append, List.append_nil, List.set, List.set_cons_zero, List.set_cons_succ, List.getElem?_cons_succ, List.getElem?_cons_zero, Option.some.injEq, List.cons.injEq, V.int.injEq, V.str.injEq, V.bl.injEq, V.ref.injEq, and_true, true_and, exists_eq_left, exists_eq_left', exists_eq_right, exists_eq_right', exists_eq, exists_and_left, exists_and_right, and_assoc, exists_false, false_and, and_false, or_false, false_or, reduceCtorEq, Nat.reduceAdd, Nat.reduceSub, List.append_assoc, eq_self, if_true, if_false, Bool.false_eq_true, decide_eq_true_eq, List.length_cons, List.length_nil]
      have hl4 := k4.lst hl3 fun z => z
      have da4 := pts_tk da3 k4.tk0
      have k04 : Kt M0 H H4 := (Kt.of k3).trans k4
      clear k4 hl3 tb3 sc3 dc3 da3 k3 hl0 hp0 ht0
      refine tforL ?_
      simp only [tSeq, tIfS, tNext, tRet, tRetN, tAsg, tDrop, tPar, tCons, tNil, tCB, tVar, tC, tOp, rI, rI0, rU, tTest, tB, tTup, tLst, gName, tIf, tAnd, tOr, tNot, tAndV, tOrV, tNotV, tUn, tCall, tChain, tSl, tNoPart, tPart, tBM, tBM0, tDGet, sDPut, tAugS, ipI, tAug, rIxT, rIxL, rMulK, rLenK, rLstK, tTruK, gTup, gCons, gNil, rEq, rNe, scal, tNever, rMulK, rGcd, L2.start, List.map, List.length, List.replicate, List.cons_append, List.nil_append, List.append_nil, List.set, List.set_cons_zero, List.set_cons_succ, List.getElem?_cons_succ, List.getElem?_cons_zero, Option.some.injEq, List.cons.injEq, V.int.injEq, V.str.injEq, V.bl.injEq, V.ref.injEq, and_true, true_and, exists_eq_left, exists_eq_left', exists_eq_right, exists_eq_right', exists_eq, exists_and_left, exists_and_right, and_assoc, exists_false, false_and, and_false, or_false, false_or, reduceCtorEq, Nat.reduceAdd, Nat.reduceSub, List.append_assoc, eq_self, if_true, if_false, Bool.false_eq_true, decide_eq_true_eq, List.length_cons, List.length_nil]
      refine ⟨pa, Or.inl (sqL_mk hl4), fun q hq0 => ?_⟩
      have k45 := Kt.new (M := M0) (o := .lst pa) hq0
      refine ⟨q, rfl, ⟨pa, sqL_mk upd_same⟩, ?_⟩
      refine for_list (K := K) (a := q) (xs := pa) (fun _ => MadeB K B.T n b (upd H4 q (.lst pa)) c (vws vals) vals.length points.length) ⟨l, p, pa, us, points, fs, v3, v4, none, none, none, none, rfl, Kt.refl _, tabs_new t4 hq0, k45.lst hl4 fun z => z, pts_tk da4 k45.tk0, op, Nat.le_refl _, to.kt k45⟩ (fun i σ H' _ h => ?_) ?_ ?_
      · obtain ⟨_, _, _, _, _, _, _, _, _, _, _, _, _, k6, _⟩ := h
        exact sqL_mk (k6.lst upd_same fun z => z)
      · clear to to0 us fs v3 v4
        rintro i y σ H' hi ⟨lp, p, pw, us, ps, fs, v3, v4, v5, v7, v8, v9, rfl, k6, t6, hlp, dps, ok6, len6, to⟩
        simp only [tSeq, tIfS, tNext, tRet, tRetN, tAsg, tDrop, tPar, tCons, tNil, tCB, tVar, tC, tOp, rI, rI0, rU, tTest, tB, tTup, tLst, gName, tIf, tAnd, tOr, tNot, tAndV, tOrV, tNotV, tUn, tCall, tChain, tSl, tNoPart, tPart, tBM, tBM0, tDGet, sDPut, tAugS, ipI, tAug, rIxT, rIxL, rMulK, rLenK, rLstK, tTruK, gTup, gCons, gNil, rEq, rNe, scal, tNever, rMulK, rGcd, L2.start, List.map, List.length, List.replicate, List.cons_append, List.nil_append, List.append_nil, List.set, List.set_cons_zero, List.set_cons_succ, List.getElem?_cons_succ, List.getElem?_cons_zero, Option.some.injEq, List.cons.injEq, V.int.injEq, V.str.injEq, V.bl.injEq, V.ref.injEq, and_true, true_and, exists_eq_left, exists_eq_left', exists_eq_right, exists_eq_right', exists_eq, exists_and_left, exists_and_right, and_assoc, exists_false, false_and, and_false, or_false, false_or, reduceCtorEq, Nat.reduceAdd, Nat.reduceSub, List.append_assoc, eq_self, if_true, if_false, Bool.false_eq_true, decide_eq_true_eq, List.length_cons, List.length_nil]
        obtain ⟨d, e1, dy⟩ := dps_get (pts_tk da4 (k45.trans k6).tk0) hi
        rw [List.getElem?_map] at e1
        cases e2 : points[i]? with
        | none => rw [e2] at e1; cases e1
        | some z =>
          rw [e2] at e1
          cases e1
          have mz := List.mem_of_getElem? e2
          refine tlcL ?_
          simp only [tSeq, tIfS, tNext, tRet, tRetN, tAsg, tDrop, tPar, tCons, tNil, tCB, tVar, tC, tOp, rI, rI0, rU, tTest, tB, tTup, tLst, gName, tIf, tAnd, tOr, tNot, tAndV, tOrV, tNotV, tUn, tCall, tChain, tSl, tNoPart, tPart, tBM, tBM0, tDGet, sDPut, tAugS, ipI, tAug, rIxT, rIxL, rMulK, rLenK, rLstK, tTruK, gTup, gCons, gNil, rEq, rNe, scal, tNever, rMulK, rGcd, L2.start, List.map, List.length, List.replicate, List.cons_append, List.nil_append, List.append_nil, List.set, List.set_cons_zero, List.set_cons_succ, List.getElem?_cons_succ, List.getElem?_cons_zero, Option.some.injEq, List.cons.injEq, V.int.injEq, V.str.injEq, V.bl.injEq, V.ref.injEq, and_true, true_and, exists_eq_left, exists_eq_left', exists_eq_right, exists_eq_right', exists_eq, exists_and_left, exists_and_right, and_assoc, exists_false, false_and, and_false, or_false, false_or, reduceCtorEq, Nat.reduceAdd, Nat.reduceSub, List.append_assoc, eq_self, if_true, if_false, Bool.false_eq_true, decide_eq_true_eq, List.length_cons, List.length_nil]
          refine lcNePt (fun _ => rfl) (fun _ => rfl) (sqL_mk hlp) dps dy (by omega) fun ot H7 ow hot k7 ho7 do7 => ?_
          have k67 : Kt M0 H' H7 := Kt.of k7
          have t7 := tabs_kp t6 k7
          have to7 := to.kt k67
          have oo : PtsOk b (ps.filter fun y => decide (y ≠ z)) := ok6.sub List.filter_sublist
          have ol : (ps.filter fun y => decide (y ≠ z)).length ≤ ps.length := List.length_filter_le _ _
          have nz : z ∉ ps.filter fun y => decide (y ≠ z) := by simp
          generalize (ps.filter fun y => decide (y ≠ z)) = others at do7 oo ol nz
          have fsl := to.l
          have dy7 := dp_tk (Tk.of0 k7) _ _ (ptD_tup _) dy
          have okz := op.ok z mz
          have szz := op.sz z mz
          have mx : max (gB b) (gB b) = gB b := Nat.max_self _
          refine tlcL ?_
          simp only [tSeq, tIfS, tNext, tRet, tRetN, tAsg, tDrop, tPar, tCons, tNil, tCB, tVar, tC, tOp, rI, rI0, rU, tTest, tB, tTup, tLst, gName, tIf, tAnd, tOr, tNot, tAndV, tOrV, tNotV, tUn, tCall, tChain, tSl, tNoPart, tPart, tBM, tBM0, tDGet, sDPut, tAugS, ipI, tAug, rIxT, rIxL, rMulK, rLenK, rLstK, tTruK, gTup, gCons, gNil, rEq, rNe, scal, tNever, rMulK, rGcd, L2.start, List.map, List.length, List.replicate, List.cons_append, List.nil_append, List.append_nil, List.set, List.set_cons_zero, List.set_cons_succ, List.getElem?_cons_succ, List.getElem?_cons_zero, Option.some.injEq, List.cons.injEq, V.int.injEq, V.str.injEq, V.bl.injEq, V.ref.injEq, and_true, true_and, exists_eq_left, exists_eq_left', exists_eq_right, exists_eq_right', exists_eq, exists_and_left, exists_and_right, and_assoc, exists_false, false_and, and_false, or_false, false_or, reduceCtorEq, Nat.reduceAdd, Nat.reduceSub, List.append_assoc, eq_self, if_true, if_false, Bool.false_eq_true, decide_eq_true_eq, List.length_cons, List.length_nil]
          refine lcLp (krT B.T) (fs.map vlD) isB t7 (by rw [List.length_map, sizeLine_eq]; omega) (fun H8 k8 _ => sqL_mk (Kt.lst k8 to7.hp fun z => z)) to7.du (vls_tup _) isB_tup (fun j d x H8 e dx k8 t8 Q' q' => ?_) fun D H8 vs es hD k8 t8 hd8 da8 el ep => ?_
          · rw [List.getElem?_map] at e
            cases e3 : fs[j]? with
            | none => rw [e3] at e; cases e
            | some f =>
              rw [e3] at e
              cases e
              have mf := List.mem_of_getElem? e3
              have wf := vw_mem mf
              have tow := to.w
              simp only [tSeq, tIfS, tNext, tRet, tRetN, tAsg, tDrop, tPar, tCons, tNil, tCB, tVar, tC, tOp, rI, rI0, rU, tTest, tB, tTup, tLst, gName, tIf, tAnd, tOr, tNot, tAndV, tOrV, tNotV, tUn, tCall, tChain, tSl, tNoPart, tPart, tBM, tBM0, tDGet, sDPut, tAugS, ipI, tAug, rIxT, rIxL, rMulK, rLenK, rLstK, tTruK, gTup, gCons, gNil, rEq, rNe, scal, tNever, rMulK, rGcd, L2.start, List.map, List.length, List.replicate, List.cons_append, List.nil_append, List.append_nil, List.set, List.set_cons_zero, List.set_cons_succ, List.getElem?_cons_succ, List.getElem?_cons_zero, Option.some.injEq, List.cons.injEq, V.int.injEq, V.str.injEq, V.bl.injEq, V.ref.injEq, and_true, true_and, exists_eq_left, exists_eq_left', exists_eq_right, exists_eq_right', exists_eq, exists_and_left, exists_and_right, and_assoc, exists_false, false_and, and_false, or_false, false_or, reduceCtorEq, Nat.reduceAdd, Nat.reduceSub, List.append_assoc, eq_self, if_true, if_false, Bool.false_eq_true, decide_eq_true_eq, List.length_cons, List.length_nil]
              refine tlcL ?_
              simp only [tSeq, tIfS, tNext, tRet, tRetN, tAsg, tDrop, tPar, tCons, tNil, tCB, tVar, tC, tOp, rI, rI0, rU, tTest, tB, tTup, tLst, gName, tIf, tAnd, tOr, tNot, tAndV, tOrV, tNotV, tUn, tCall, tChain, tSl, tNoPart, tPart, tBM, tBM0, tDGet, sDPut, tAugS, ipI, tAug, rIxT, rIxL, rMulK, rLenK, rLstK, tTruK, gTup, gCons, gNil, rEq, rNe, scal, tNever, rMulK, rGcd, L2.start, List.map, List.length, List.replicate, List.cons_append, List.nil_append, List.append_nil, List.set, List.set_cons_zero, List.set_cons_succ, List.getElem?_cons_succ, List.getElem?_cons_zero, Option.some.injEq, List.cons.injEq, V.int.injEq, V.str.injEq, V.bl.injEq, V.ref.injEq, and_true, true_and, exists_eq_left, exists_eq_left', exists_eq_right, exists_eq_right', exists_eq, exists_and_left, exists_and_right, and_assoc, exists_false, false_and, and_false, or_false, false_or, reduceCtorEq, Nat.reduceAdd, Nat.reduceSub, List.append_assoc, eq_self, if_true, if_false, Bool.false_eq_true, decide_eq_true_eq, List.length_cons, List.length_nil]
              refine ⟨x, y, ot, f, ow, others, z, gB b, b, rfl, dx, to.ok f mf, by rw [mx]; exact hg, by omega, Kt.lst k8 ho7 fun z => z, pts_tk do7 (Kt.tk0 k8), oo, dp_tk (Kt.tk0 k8) _ _ (ptD_tup _) dy7, okz, szz, nz, by omega, t8, fun D9 H9 us9 gs k9 t9 hd9 du9 og9 gl9 => ?_⟩
              refine lcLp (krT B.T) (gs.map vlD) isB t9 (by rw [List.length_map, sizeLine_eq]; omega) (fun H10 k10 _ => sqL_mk (Kt.lst k10 hd9 fun z => z)) du9 (vls_tup _) isB_tup (fun j2 d2 x2 H10 e4 dx2 k10 t10 Q2 q2 => ?_) fun D10 H10 vs10 es10 hD10 k10 t10 hd10 da10 el10 ep10 => ?_
              · rw [List.getElem?_map] at e4
                cases e5 : gs[j2]? with
                | none => rw [e5] at e4; cases e4
                | some g =>
                  rw [e5] at e4
                  cases e4
                  have to10 := to7.kt ((Kt.trans k8 k9).trans k10)
                  simp only [tSeq, tIfS, tNext, tRet, tRetN, tAsg, tDrop, tPar, tCons, tNil, tCB, tVar, tC, tOp, rI, rI0, rU, tTest, tB, tTup, tLst, gName, tIf, tAnd, tOr, tNot, tAndV, tOrV, tNotV, tUn, tCall, tChain, tSl, tNoPart, tPart, tBM, tBM0, tDGet, sDPut, tAugS, ipI, tAug, rIxT, rIxL, rMulK, rLenK, rLstK, tTruK, gTup, gCons, gNil, rEq, rNe, scal, tNever, rMulK, rGcd, L2.start, List.map, List.length, List.replicate, List.cons_append, List.nil_append, List.append_nil, List.set, List.set_cons_zero, List.set_cons_succ, List.getElem?_cons_succ, List.getElem?_cons_zero, Option.some.injEq, List.cons.injEq, V.int.injEq, V.str.injEq, V.bl.injEq, V.ref.injEq, and_true, true_and, exists_eq_left, exists_eq_left', exists_eq_right, exists_eq_right', exists_eq, exists_and_left, exists_and_right, and_assoc, exists_false, false_and, and_false, or_false, false_or, reduceCtorEq, Nat.reduceAdd, Nat.reduceSub, List.append_assoc, eq_self, if_true, if_false, Bool.false_eq_true, decide_eq_true_eq, List.length_cons, List.length_nil]
                  exact inVl dx2 (og9 g (List.mem_of_getElem? e5)) to10.hp to10.du to10.ok n28 n28 fun tt => q2 _ H10 (.bool tt) (Kt.refl _) t10 ⟨tt, rfl⟩ (.bl tt)
              · obtain ⟨bs, rfl⟩ := isB_all ep10
                rw [dps_bools da10] at hd10
                exact ⟨D10, bs, rfl, sqL_mk hd10, q' _ H10 (.bool _) (k9.trans k10) t10 ⟨_, rfl⟩ (.bl _)⟩
          · obtain ⟨bs, rfl⟩ := isB_all ep
            rw [dps_bools da8] at hd8
            have k78 : Kt M0 H7 H8 := k8
            refine ⟨D, bs, rfl, sqL_mk hd8, _, rfl, ?_⟩
            cases bs.all id with
            | false =>
              rw [if_neg (by simp)]
              exact ⟨lp, p, pw, us, ps, fs, _, _, _, _, _, _, rfl, (k6.trans k67).trans k78, t8, (k67.trans k78).lst hlp fun z => z, pts_tk dps (k67.trans k78).tk0, ok6, len6, to7.kt k78⟩
            | true =>
              rw [if_pos rfl]
              refine ⟨by decide, fun r hr0 => tforL ?_⟩
              simp only [tSeq, tIfS, tNext, tRet, tRetN, tAsg, tDrop, tPar, tCons, tNil, tCB, tVar, tC, tOp, rI, rI0, rU, tTest, tB, tTup, tLst, gName, tIf, tAnd, tOr, tNot, tAndV, tOrV, tNotV, tUn, tCall, tChain, tSl, tNoPart, tPart, tBM, tBM0, tDGet, sDPut, tAugS, ipI, tAug, rIxT, rIxL, rMulK, rLenK, rLstK, tTruK, gTup, gCons, gNil, rEq, rNe, scal, tNever, rMulK, rGcd, L2.start, List.map, List.length, List.replicate, List.cons_append, List.nil_append, List.append_nil, List.set, List.set_cons_zero, List.set_cons_succ, List.getElem?_cons_succ, List.getElem?_cons_zero, Option.some.injEq, List.cons.injEq, V.int.injEq, V.str.injEq, V.bl.injEq, V.ref.injEq, and_true, true_and, exists_eq_left, exists_eq_left', exists_eq_right, exists_eq_right', exists_eq, exists_and_left, exists_and_right, and_assoc, exists_false, false_and, and_false, or_false, false_or, reduceCtorEq, Nat.reduceAdd, Nat.reduceSub, List.append_assoc, eq_self, if_true, if_false, Bool.false_eq_true, decide_eq_true_eq, List.length_cons, List.length_nil]
              have to8 := to7.kt k78
              have k9 := Kt.new (M := M0) (o := .lst []) hr0
              have to9 := to8.kt k9
              refine ⟨p, rfl, ⟨us, sqL_mk to9.hp⟩, ?_⟩
              have ho9 := (k78.trans k9).lst ho7 fun z => z
              have do9 := pts_tk do7 (k78.trans k9).tk0
              have fl : us.length = fs.length := by rw [dps_len to.du, List.length_map]
              refine for_list (K := K) (a := p) (xs := us) (MadeC K B.T n b (upd H8 r (.lst [])) c p ot v3 (some y) fs others) ⟨r, [], [], v4, v8, rfl, Kt.refl _, tabs_new t8 hr0, .nil upd_same⟩ (fun i σ H' _ h => ?_) ?_ ?_
              · obtain ⟨_, _, _, _, _, _, k, _⟩ := h
                exact sqL_mk (k.lst to9.hp fun z => z)
              · rintro j x σ H10 hj ⟨q9, ws, gs, w4, w8, rfl, k10, t10, tq⟩
                simp only [tSeq, tIfS, tNext, tRet, tRetN, tAsg, tDrop, tPar, tCons, tNil, tCB, tVar, tC, tOp, rI, rI0, rU, tTest, tB, tTup, tLst, gName, tIf, tAnd, tOr, tNot, tAndV, tOrV, tNotV, tUn, tCall, tChain, tSl, tNoPart, tPart, tBM, tBM0, tDGet, sDPut, tAugS, ipI, tAug, rIxT, rIxL, rMulK, rLenK, rLstK, tTruK, gTup, gCons, gNil, rEq, rNe, scal, tNever, rMulK, rGcd, L2.start, List.map, List.length, List.replicate, List.cons_append, List.nil_append, List.append_nil, List.set, List.set_cons_zero, List.set_cons_succ, List.getElem?_cons_succ, List.getElem?_cons_zero, Option.some.injEq, List.cons.injEq, V.int.injEq, V.str.injEq, V.bl.injEq, V.ref.injEq, and_true, true_and, exists_eq_left, exists_eq_left', exists_eq_right, exists_eq_right', exists_eq, exists_and_left, exists_and_right, and_assoc, exists_false, false_and, and_false, or_false, false_or, reduceCtorEq, Nat.reduceAdd, Nat.reduceSub, List.append_assoc, eq_self, if_true, if_false, Bool.false_eq_true, decide_eq_true_eq, List.length_cons, List.length_nil]
                obtain ⟨d, e1, dx⟩ := dps_get (dvs_tk to9.du k10.tk0) hj
                rw [List.getElem?_map] at e1
                cases e3 : fs[j]? with
                | none => rw [e3] at e1; cases e1
                | some f =>
                  rw [e3] at e1
                  cases e1
                  have mf := List.mem_of_getElem? e3
                  have wf := vw_mem mf
                  have tow := to.w
                  refine ⟨x, ot, f, ow, others, gB b, b, rfl, dx, to.ok f mf, hg, by omega, k10.lst ho9 fun z => z, pts_tk do9 k10.tk0, oo, hg, by omega, t10, fun y2 H11 k11 t11 d11 => ?_⟩
                  obtain ⟨po1, po2⟩ := placed_ok (points := others) (to.ok f mf) oo (by omega)
                  have tq11 := tq.kt k11
                  have wt : vws (fs.take (j + 1)) = vws (fs.take j) + vw f := by rw [take_snoc e3, vws_app]; simp [vws]
                  refine inVl d11 po1 tq11.hp tq11.du tq11.ok n28 n28 fun tt => ⟨_, rfl, ?_⟩
                  cases tt with
                  | true =>
                    rw [if_pos rfl]
                    exact ⟨q9, ws, gs, _, _, rfl, k10.trans k11, t11, tq11.up (by omega) (by omega)⟩
                  | false =>
                    rw [if_neg (by simp)]
                    refine ⟨by decide, fun q1 hq1 => ?_⟩
                    have k51 := Kt.new (M := M0) (o := .lst [y2]) hq1
                    have wsl : ws.length = gs.length := by rw [dps_len tq11.du, List.length_map]
                    have il := tq11.l
                    have ilt := (List.getElem?_eq_some_iff.mp e3).1
                    refine ⟨q9, q1, ws, [y2], rfl, rfl, k51.lst tq11.hp fun z => z, upd_same, by rw [sizeLine_eq]; simp; omega, fun q2 hq2 => ?_⟩
                    have k52 := k51.trans (Kt.new (M := M0) (o := .lst (ws ++ [y2])) hq2)
                    have := tq11.snoc k52 upd_same d11 po1 ⟨nf_placed (to.ok f mf) oo (by omega), placed_twice (to.ok f mf) oo (by omega)⟩
                    rw [po2] at this
                    exact ⟨q2, ws ++ [y2], _, _, _, rfl, (k10.trans k11).trans k52, tabs_new (tabs_new t11 hq1) hq2, this.up (by omega) (by omega)⟩
              · rintro σ H10 ⟨q9, ws, gs, w4, w8, rfl, k10, t10, tq⟩
                simp only [tSeq, tIfS, tNext, tRet, tRetN, tAsg, tDrop, tPar, tCons, tNil, tCB, tVar, tC, tOp, rI, rI0, rU, tTest, tB, tTup, tLst, gName, tIf, tAnd, tOr, tNot, tAndV, tOrV, tNotV, tUn, tCall, tChain, tSl, tNoPart, tPart, tBM, tBM0, tDGet, sDPut, tAugS, ipI, tAug, rIxT, rIxL, rMulK, rLenK, rLstK, tTruK, gTup, gCons, gNil, rEq, rNe, scal, tNever, rMulK, rGcd, L2.start, List.map, List.length, List.replicate, List.cons_append, List.nil_append, List.append_nil, List.set, List.set_cons_zero, List.set_cons_succ, List.getElem?_cons_succ, List.getElem?_cons_zero, Option.some.injEq, List.cons.injEq, V.int.injEq, V.str.injEq, V.bl.injEq, V.ref.injEq, and_true, true_and, exists_eq_left, exists_eq_left', exists_eq_right, exists_eq_right', exists_eq, exists_and_left, exists_and_right, and_assoc, exists_false, false_and, and_false, or_false, false_or, reduceCtorEq, Nat.reduceAdd, Nat.reduceSub, List.append_assoc, eq_self, if_true, if_false, Bool.false_eq_true, decide_eq_true_eq, List.length_cons, List.length_nil]
                have kk := (k78.trans k9).trans k10
                exact ⟨ot, q9, ow, ws, others, gs, _, _, _, _, _, _, rfl, (k6.trans k67).trans kk, t10, kk.lst ho7 fun z => z, pts_tk do7 kk.tk0, oo, by omega, tq.up (by rw [fl, List.take_length]; exact to.w) (by omega)⟩
      · clear to to0 us fs v3 v4
        rintro σ H5 ⟨lp, p, pw, us, ps, fs, v3, v4, v5, v7, v8, v9, rfl, k5, t5, hlp, dps, ok5, len5, to⟩
        simp only [tSeq, tIfS, tNext, tRet, tRetN, tAsg, tDrop, tPar, tCons, tNil, tCB, tVar, tC, tOp, rI, rI0, rU, tTest, tB, tTup, tLst, gName, tIf, tAnd, tOr, tNot, tAndV, tOrV, tNotV, tUn, tCall, tChain, tSl, tNoPart, tPart, tBM, tBM0, tDGet, sDPut, tAugS, ipI, tAug, rIxT, rIxL, rMulK, rLenK, rLstK, tTruK, gTup, gCons, gNil, rEq, rNe, scal, tNever, rMulK, rGcd, L2.start, List.map, List.length, List.replicate, List.cons_append, List.nil_append, List.append_nil, List.set, List.set_cons_zero, List.set_cons_succ, List.getElem?_cons_succ, List.getElem?_cons_zero, Option.some.injEq, List.cons.injEq, V.int.injEq, V.str.injEq, V.bl.injEq, V.ref.injEq, and_true, true_and, exists_eq_left, exists_eq_left', exists_eq_right, exists_eq_right', exists_eq, exists_and_left, exists_and_right, and_assoc, exists_false, false_and, and_false, or_false, false_or, reduceCtorEq, Nat.reduceAdd, Nat.reduceSub, List.append_assoc, eq_self, if_true, if_false, Bool.false_eq_true, decide_eq_true_eq, List.length_cons, List.length_nil]
        have len5b := to.l
        have tow := to.w
        have usl : us.length = fs.length := by rw [dps_len to.du, List.length_map]
        refine ⟨lp, pw, rfl, Or.inl ⟨sqL_mk hlp, fun tp htp => ?_⟩⟩
        have ntp : p ≠ tp := ne_of_none to.hp htp
        refine ⟨_, rfl, p, us, fs.map textV, rfl, sqL_mk (by rw [upd_ne ntp]; exact to.hp), by rw [usl]; simp, tabs_new t5 htp, fun H2 eN T2 => ⟨sqL_mk (eN _ _ (by rw [upd_ne ntp]; exact to.hp) fun _ z => by cases z), fun i u kx hu hk H3 k3 => ?_, fun out q H3 sb hq k3 hq3 => ?_⟩⟩
        · rw [List.getElem?_map] at hk
          cases e3 : fs[i]? with
          | none => rw [e3] at hk; cases hk
          | some z =>
            rw [e3] at hk; cases hk
            have mz := List.mem_of_getElem? e3
            have wz := vw_mem mz
            have tkk : Tk H5 H3 := ((Tk.new htp).trans (Kt.ext (M := M0) eN).tk0).trans (Tk.of0 k3)
            obtain ⟨d, e4, du⟩ := dps_get (dvs_tk to.du tkk) hu
            rw [List.getElem?_map, e3] at e4; cases e4
            simp only [tSeq, tIfS, tNext, tRet, tRetN, tAsg, tDrop, tPar, tCons, tNil, tCB, tVar, tC, tOp, rI, rI0, rU, tTest, tB, tTup, tLst, gName, tIf, tAnd, tOr, tNot, tAndV, tOrV, tNotV, tUn, tCall, tChain, tSl, tNoPart, tPart, tBM, tBM0, tDGet, sDPut, tAugS, ipI, tAug, rIxT, rIxL, rMulK, rLenK, rLstK, tTruK, gTup, gCons, gNil, rEq, rNe, scal, tNever, rMulK, rGcd, L2.start, List.map, List.length, List.replicate, List.cons_append, List.nil_append, List.append_nil, List.set, List.set_cons_zero, List.set_cons_succ, List.getElem?_cons_succ, List.getElem?_cons_zero, Option.some.injEq, List.cons.injEq, V.int.injEq, V.str.injEq, V.bl.injEq, V.ref.injEq, and_true, true_and, exists_eq_left, exists_eq_left', exists_eq_right, exists_eq_right', exists_eq, exists_and_left, exists_and_right, and_assoc, exists_false, false_and, and_false, or_false, false_or, reduceCtorEq, Nat.reduceAdd, Nat.reduceSub, List.append_assoc, eq_self, if_true, if_false, Bool.false_eq_true, decide_eq_true_eq, List.length_cons, List.length_nil]
            exact ⟨u, z, gB b, n, rfl, du, Nat.le_refl n, to.ok z mz, hg, by omega, fun H4 k4 => ⟨_, rfl, rfl, k4⟩⟩
        · refine ⟨q, out, rfl, Or.inl ⟨sqL_mk upd_same, fun t5' ht5 => ⟨by decide, fun t6 ht6 => ?_⟩⟩⟩
          have kA : Kt M0 (upd H5 tp (.tup pw)) (upd (upd (upd H3 q (.lst out)) t5' (.tup out)) t6 (.tup [.str "set", .ref tp, .ref t5'])) :=
            ((((Kt.ext eN).trans (Kt.of k3)).trans (Kt.new hq3)).trans (Kt.new ht5)).trans (Kt.new ht6)
          have kB : Kt M0 H5 _ := (Kt.new (o := .tup pw) htp).trans kA
          have dout := sorted_dps (dvs_tk to.du (((Tk.new (o := .tup pw) htp).trans (Kt.ext (M := M0) eN).tk0).trans (Tk.of0 k3))) sb
          have kq := (k04.trans (Kt.new (M := M0) (o := .lst pa) hq0)).trans (k5.trans kB)
          refine k _ _ ps (sortV fs) kq (tabs_new (tabs_new (tabs_new (tabs_kp T2 k3) hq3) ht5) ht6) ?_ ok5 len5 (fun m hm => to.ok m ((sortV_perm _).mem_iff.mp hm)) (by rw [vws_perm (sortV_perm _)]; exact tow) (by rw [(sortV_perm fs).length_eq]; exact len5b) (nf_sorted to.nf)
          refine dv_mkset (tpl upd_same) (tpl (kA _ _ upd_same (fun _ z => by cases z) fun z => z)) (pts_tk dps kB.tk0) (tpl (by rw [upd_ne (ne_of_none upd_same ht6)]; exact upd_same)) (dvs_tk dout (((Tk.new hq3).trans (Tk.new ht5)).trans (Tk.new ht6)))
end
end G
set_option Elab.async false
set_option linter.all false
set_option maxRecDepth 100000
set_option maxHeartbeats 4000000
/-! values alike as data -/
namespace G
open PySem L2
mutual
theorem vl_eqv : ∀ x y : Vl, PyData.eqv (vlD x) (vlD y) = true ↔ x = y
  | .word s, .word t => by simp [vlD, PyData.eqv]
  | .word s, .pt _ => by simp [vlD, ptD, PyData.eqv]
  | .word s, .row _ => by simp [vlD, PyData.eqv]
  | .word s, .set _ _ => by simp [vlD, PyData.eqv]
  | .pt _, .word s => by simp [vlD, ptD, PyData.eqv]
  | .pt x, .pt y => by rw [vlD, vlD, ptD_eqv]; simp
  | .pt _, .row _ => by simp [vlD, ptD, PyData.eqv, PyData.eqvAll]
  | .pt _, .set _ _ => by simp [vlD, ptD, PyData.eqv, PyData.eqvAll]
  | .row _, .word s => by simp [vlD, PyData.eqv]
  | .row _, .pt _ => by simp [vlD, ptD, PyData.eqv, PyData.eqvAll]
  | .row xs, .row ys => by simp [vlD, PyData.eqv, PyData.eqvAll, vls_eqv xs ys]
  | .row _, .set _ _ => by simp [vlD, PyData.eqv, PyData.eqvAll]; intro h; exact absurd h (by decide +kernel)
  | .set _ _, .word s => by simp [vlD, PyData.eqv]
  | .set _ _, .pt _ => by simp [vlD, ptD, PyData.eqv, PyData.eqvAll]
  | .set _ _, .row _ => by simp [vlD, PyData.eqv, PyData.eqvAll]; intro h; exact absurd h (by decide +kernel)
  | .set ps xs, .set qs ys => by simp [vlD, PyData.eqv, PyData.eqvAll, vls_eqv xs ys, pts_eqv]
theorem vls_eqv : ∀ xs ys : List Vl, PyData.eqvAll (vlDs xs) (vlDs ys) = true ↔ xs = ys
  | [], [] => by simp [vlDs, PyData.eqvAll]
  | [], _ :: _ => by simp [vlDs, PyData.eqvAll]
  | _ :: _, [] => by simp [vlDs, PyData.eqvAll]
  | x :: xs, y :: ys => by simp [vlDs, PyData.eqvAll, vl_eqv x y, vls_eqv xs ys]
end
def eqB (x y : Vl) : Bool := PyData.eqv (vlD x) (vlD y)
theorem eqB_iff {x y : Vl} : eqB x y = true ↔ x = y := vl_eqv x y
theorem eqB_self (x : Vl) : eqB x x = true := eqB_iff.mpr rfl
end G
set_option Elab.async false
set_option linter.all false
set_option maxRecDepth 100000
set_option maxHeartbeats 4000000
set_option exponentiation.threshold 10000
namespace G
open PySem L2 LamX NdefX
section
variable {P : Program} {w : World} {K : PySem.W.Frag} {mg : Str → Option Value} {base : Heap}
/-! ### placed, are_alike -/
def sp_plc (K : PySem.W.Frag) (T : List (Addr × Str)) (n : Nat) : Sp := fun vs H Q _ => ∃ (v : V) (a : Addr) (x : Vl) (ow : List V) (pts : List Pt) (bo bn : Nat), vs = [v, .ref a] ∧ Dp K H v (vlD x) ∧ VOk n bo x ∧ Nf x ∧ gN n bo ≤ 1900 ∧ vw x < 1000 ∧ SqT K H a ow ∧ DpAll K H ow (pts.map ptD) ∧ PtsOk bn pts ∧ bn ≤ bo ∧ gN n (gB bn) ≤ 1900 ∧ pts.length < 1000 ∧ Tabs T H ∧
  ∀ (y : V) (H' : Hp), Kt M0 H H' → Tabs T H' → Dp K H' y (vlD (placedV x pts)) → Q y H'
theorem ok_placed (W : Ds K mg) (B : Tbs W base) (n : Nat) : FnG P w K mg base (3 * n + 10) W.f_placed W.fd_placed P_placed (sp_plc K B.T n) := by
  refine fnG_ok W.D_placed.F sc_placed (fun vs H Q E h => ?len) (fun cdv A outer s H vs Q E nr hr h => ?body)
  case len =>
    obtain ⟨v, a, x, ow, pts, bo, bn, rfl, _⟩ := h
    rfl
  case body =>
    obtain ⟨v, a, x, ow, pts, bo, bn, rfl, dx, ox, nf, hbo, hw, sa, da, op, hb, hbn, hl, tb, k⟩ := h
    have nd := sc_placed.nd
    have hu := hu_of hr
    have hu64 := hr.units
    have hu65 := hu65_of hr
    refine ⟨_, (pss_one (ps_ret (peG_call (okReplaced W B n) nr (hr.mono (by first | decide | omega)) rfl W.D_replaced.g W.D_replaced.F.kp W.D_replaced.b (pa_cons (pv 0) (pa_cons (pv 1) (pa_cons (pv 1) pa_nil)))))), ?_⟩
    simp only [tSeq, tIfS, tNext, tRet, tRetN, tAsg, tDrop, tPar, tCons, tNil, tCB, tVar, tC, tOp, rI, rI0, rU, tTest, tB, tTup, tLst, gName, tIf, tAnd, tOr, tNot, tAndV, tOrV, tNotV, tUn, tCall, tChain, tSl, tNoPart, tPart, tBM, tBM0, tDGet, sDPut, tAugS, ipI, tAug, rIxT, rIxL, rMulK, rLenK, rLstK, tTruK, gTup, gCons, gNil, rEq, rNe, scal, tNever, rMulK, rGcd, L2.start, List.map, List.length, List.replicate, List.cons_append, List.nil_append, List.append_nil, List.set, List.set_cons_zero, List.set_cons_succ, List.getElem?_cons_succ, List.getElem?_cons_zero, Option.some.injEq, List.cons.injEq, V.int.injEq, V.str.injEq, V.bl.injEq, V.ref.injEq, and_true, true_and, exists_eq_left, exists_eq_left', exists_eq_right, exists_eq_right', exists_eq, exists_and_left, exists_and_right, and_assoc, exists_false, false_and, and_false, or_false, false_or, reduceCtorEq, Nat.reduceAdd, Nat.reduceSub, List.append_assoc, eq_self, if_true, if_false, Bool.false_eq_true, decide_eq_true_eq, List.length_cons, List.length_nil]
    exact ⟨v, a, a, x, ow, ow, pts, pts, bo, bn, rfl, dx, ox, nf, hbo, hw, sa, sa, da, da, op.mono hb, op, hbn, rfl, hl, tb, k⟩
def sp_alike (K : PySem.W.Frag) (T : List (Addr × Str)) (n : Nat) : Sp := fun vs H Q _ => ∃ (v u : V) (a : Addr) (x y : Vl) (ow : List V) (pts : List Pt) (bo bn : Nat), vs = [.ref a, v, u] ∧ Dp K H v (vlD x) ∧ Dp K H u (vlD y) ∧ VOk n bo x ∧ VOk n bo y ∧ Nf x ∧ Nf y ∧ gN n bo ≤ 1900 ∧ vw x < 1000 ∧ vw y < 1000 ∧ SqT K H a ow ∧ DpAll K H ow (pts.map ptD) ∧ PtsOk bn pts ∧ bn ≤ bo ∧ gN n (gB bn) ≤ 1900 ∧ pts.length < 1000 ∧ Tabs T H ∧
  ∀ (H' : Hp), Kt M0 H H' → Tabs T H' → Q (.bl (eqB (placedV x pts) (placedV y pts))) H'
theorem ok_are_alike (W : Ds K mg) (B : Tbs W base) (n : Nat) : FnG P w K mg base (3 * n + 11) W.f_are_alike W.fd_are_alike P_are_alike (sp_alike K B.T n) := by
  refine fnG_ok W.D_are_alike.F sc_are_alike (fun vs H Q E h => ?len) (fun cdv A outer s H vs Q E nr hr h => ?body)
  case len =>
    obtain ⟨v, u, a, x, y, ow, pts, bo, bn, rfl, _⟩ := h
    rfl
  case body =>
    obtain ⟨v, u, a, x, y, ow, pts, bo, bn, rfl, dx, dy, ox, oy, nx, ny, hbo, hwx, hwy, sa, da, op, hb, hbn, hl, tb, k⟩ := h
    have nd := sc_are_alike.nd
    have hu := hu_of hr
    have hu64 := hr.units
    have hu65 := hu65_of hr
    refine ⟨_, (pss_one (ps_ret (pe_cmpR (k_eqD K hu64) (peG_call (ok_placed W B n) nr (hr.mono (by first | decide | omega)) rfl W.D_placed.g W.D_placed.F.kp W.D_placed.b (pa_cons (pv 1) (pa_cons (pv 0) pa_nil))) (peG_call (ok_placed W B n) nr (hr.mono (by first | decide | omega)) rfl W.D_placed.g W.D_placed.F.kp W.D_placed.b (pa_cons (pv 2) (pa_cons (pv 0) pa_nil))) (nomark _)))), ?_⟩
    simp only [tSeq, tIfS, tNext, tRet, tRetN, tAsg, tDrop, tPar, tCons, tNil, tCB, tVar, tC, tOp, rI, rI0, rU, tTest, tB, tTup, tLst, gName, tIf, tAnd, tOr, tNot, tAndV, tOrV, tNotV, tUn, tCall, tChain, tSl, tNoPart, tPart, tBM, tBM0, tDGet, sDPut, tAugS, ipI, tAug, rIxT, rIxL, rMulK, rLenK, rLstK, tTruK, gTup, gCons, gNil, rEq, rNe, scal, tNever, rMulK, rGcd, L2.start, List.map, List.length, List.replicate, List.cons_append, List.nil_append, List.append_nil, List.set, List.set_cons_zero, List.set_cons_succ, List.getElem?_cons_succ, List.getElem?_cons_zero, Option.some.injEq, List.cons.injEq, V.int.injEq, V.str.injEq, V.bl.injEq, V.ref.injEq, and_true, true_and, exists_eq_left, exists_eq_left', exists_eq_right, exists_eq_right', exists_eq, exists_and_left, exists_and_right, and_assoc, exists_false, false_and, and_false, or_false, false_or, reduceCtorEq, Nat.reduceAdd, Nat.reduceSub, List.append_assoc, eq_self, if_true, if_false, Bool.false_eq_true, decide_eq_true_eq, List.length_cons, List.length_nil]
    have n28 := gN_28 hbn
    have tbk : ∀ {H' : Hp}, Kt M0 H H' → Tk H H' := fun k => k.tk0
    refine ⟨v, a, x, ow, pts, bo, bn, rfl, dx, ox, nx, hbo, hwx, sa, da, op, hb, hbn, hl, tb, fun x2 H1 k1 t1 d1 => ?_⟩
    refine ⟨u, a, y, ow, pts, bo, bn, rfl, dv_tk dy k1.tk0, oy, ny, hbo, hwy, sqT_tk k1.tk0 sa, pts_tk da k1.tk0, op, hb, hbn, hl, t1, fun y2 H2 k2 t2 d2 => ?_⟩
    have gb : gB bn ≤ 1900 := Nat.le_trans (gN_ge n (gB bn)) hbn
    obtain ⟨po1, _⟩ := placed_ok (points := pts) ox op hwx
    obtain ⟨po2, _⟩ := placed_ok (points := pts) oy op hwy
    refine eqD (dv_tk d1 k2.tk0).up d2.up (vl_shaped po1 n28) (vl_shaped po2 n28) rfl ?_
    exact k H2 (k1.trans k2) t2
end
end G
set_option Elab.async false
set_option linter.all false
set_option maxRecDepth 100000
set_option maxHeartbeats 4000000
set_option exponentiation.threshold 10000
/-! values that are alike: the one move between them -/
namespace G
open PySem L2 NdefX
theorem lead_self {l : List Pt} {f : Pt → Pt} {y : Pt} (h : y ∈ l) : leadP l (l.map f) y = f y := by
  obtain ⟨_, h2, h3⟩ := lead_at (news := l.map f) h (by simp)
  rw [List.getElem?_map, h2] at h3
  exact (Option.some.inj h3).symm
/-- the points of a value and more, and where placing leads them -/
abbrev onP (pts : List Pt) (v : Vl) : List Pt := (endsP pts pts (restP pts (supV v))).1
abbrev atB (pts : List Pt) (v : Vl) : List Pt := (endsP pts pts (restP pts (supV v))).2
section
variable {n bo b c : Nat} {x y : Vl} {pts : List Pt}
theorem on_mem (h : VOk n bo x) (hp : PtsOk b pts) (hw : vw x < 1000) (p : Pt) : p ∈ onP pts x ↔ p ∈ pts ∨ p ∈ supV x := by
  rw [(rest_ok h hp hw).1.m1 p]
  constructor
  · rintro (q | q)
    · exact .inl q
    · exact .inr (List.mem_filter.mp q).1
  · rintro (q | q)
    · exact .inl q
    · by_cases z : p ∈ pts
      · exact .inl z
      · exact .inr (List.mem_filter.mpr ⟨q, by simpa using z⟩)
theorem on_mv (h : VOk n bo x) (hp : PtsOk b pts) (hw : vw x < 1000) : MvOk (max b bo) (gB b) (onP pts x) (atB pts x) := (rest_ok h hp hw).1.mv
/-- ascending, all of them -/
theorem on_asc (h : VOk n bo x) (hp : PtsOk b pts) (hw : vw x < 1000) : ascP (pts ++ supV x) = onP pts x := by
  have so := sup_ok h
  have all : ∀ p ∈ pts ++ supV x, PtOk p ∧ Sz (max b bo) p := fun p hp' => by
    rcases List.mem_append.mp hp' with q | q
    · exact ⟨hp.ok p q, (hp.sz p q).mono (Nat.le_max_left _ _)⟩
    · exact ⟨so.ok p q, (so.sz p q).mono (Nat.le_max_right _ _)⟩
  have o := asc_ok all
  refine asc_ext o.ok o.asc (on_mv h hp hw).o.asc fun p => ?_
  rw [asc_mem all, on_mem h hp hw, List.mem_append]
theorem at_same (hx : VOk n bo x) (hy : VOk n c y) (hp : PtsOk b pts) (wx : vw x < 1000) (wy : vw y < 1000) (e : placedV x pts = placedV y pts) : atB pts x = atB pts y := by
  have s : shapeP pts (supV x) = shapeP pts (supV y) := by rw [← shape_placed hx hp wx, e, shape_placed hy hp wy]
  have g : ∀ k, k < pts.length + 1 → gapN pts (restP pts (supV x)) k = gapN pts (restP pts (supV y)) k := fun k hk => by
    have q := congrArg (fun l : List Nat => l[k]?) s
    simp only [shapeP, List.getElem?_map] at q
    rw [List.getElem?_range hk] at q
    simpa using q
  show ascP (pts ++ gapsP pts pts (restP pts (supV x)) (pts.length + 1)) = ascP (pts ++ gapsP pts pts (restP pts (supV y)) (pts.length + 1))
  unfold gapsP
  congr 2
  have t : ∀ m, m ≤ pts.length + 1 → ((List.range m).flatMap fun k => spreadP pts k (gapN pts (restP pts (supV x)) k)) = (List.range m).flatMap fun k => spreadP pts k (gapN pts (restP pts (supV y)) k) := by
    intro m
    induction m with
    | zero => intro _; rfl
    | succ m ih =>
      intro hm
      rw [List.range_succ, List.flatMap_append, List.flatMap_append, ih (by omega)]
      simp [g m (by omega)]
  exact t _ (Nat.le_refl _)
/-- alike values: what is known of the move between them -/
structure AlkOk (n bo c b : Nat) (x y : Vl) (pts : List Pt) : Prop where
  mv : MvOk (max b bo) (max b c) (onP pts x) (onP pts y)
  to : movedV x (onP pts x) (onP pts y) = y
  sup : supV y = (supV x).map (leadP (onP pts x) (onP pts y))
  fix : ∀ p ∈ pts, leadP (onP pts x) (onP pts y) p = p
theorem alike_move (hx : VOk n bo x) (hy : VOk n c y) (nf : Nf y) (hp : PtsOk b pts) (wx : vw x < 1000) (wy : vw y < 1000) (e : placedV x pts = placedV y pts) : AlkOk n bo c b x y pts := by
  have eb := at_same hx hy hp wx wy e
  have M := on_mv hx hp wx
  have N := on_mv hy hp wy
  rw [eb] at M
  have Nb : MvOk (gB b) (max b c) (atB pts y) (onP pts y) := ⟨N.n, N.o, N.l.symm⟩
  have subx : ∀ p ∈ supV x, p ∈ onP pts x := fun p q => (on_mem hx hp wx p).mpr (.inr q)
  have suby : ∀ p ∈ supV y, p ∈ onP pts y := fun p q => (on_mem hy hp wy p).mpr (.inr q)
  have mv : MvOk (max b bo) (max b c) (onP pts x) (onP pts y) := ⟨M.o, N.o, M.l.trans N.l.symm⟩
  have to : movedV x (onP pts x) (onP pts y) = y := by
    have e1 : movedV (placedV x pts) (atB pts y) (onP pts y) = movedV x (onP pts x) (onP pts y) := by
      show movedV (movedV x (onP pts x) (atB pts x)) (atB pts y) (onP pts y) = _
      rw [eb]
      exact moved_comp hx M Nb subx wx
    have e2 : movedV (placedV y pts) (atB pts y) (onP pts y) = y := by
      show movedV (movedV y (onP pts y) (atB pts y)) (atB pts y) (onP pts y) = _
      rw [moved_comp hy N Nb suby wy]
      exact moved_same hy nf N.o suby
    rw [← e1, e, e2]
  refine ⟨mv, to, ?_, fun p q => ?_⟩
  · have := sup_moved hx mv subx wx
    rw [to] at this
    exact this
  · obtain ⟨k, hk⟩ := List.getElem?_of_mem q
    have mx : p ∈ onP pts x := (on_mem hx hp wx p).mpr (.inl q)
    have my : p ∈ onP pts y := (on_mem hy hp wy p).mpr (.inl q)
    have f1 : leadP (onP pts x) (atB pts y) p = p := by
      have := (rest_ok hx hp wx).2 k p hk
      rw [← eb]
      exact this
    have f2 : leadP (onP pts y) (atB pts y) p = p := (rest_ok hy hp wy).2 k p hk
    have f3 : leadP (atB pts y) (onP pts y) p = p := by
      have := lead_comp N Nb my
      rw [f2, lead_same N.o my] at this
      exact this
    rw [← lead_comp M Nb mx, f1, f3]
/-- where a point of the value is led -/
theorem AlkOk.lead (A : AlkOk n bo c b x y pts) {p : Pt} (hp : p ∈ supV x) : leadP (supV x) (supV y) p = leadP (onP pts x) (onP pts y) p := by
  rw [A.sup]; exact lead_self hp
/-- a value and itself -/
theorem alike_self (hx : VOk n bo x) (hp : PtsOk b pts) (wx : vw x < 1000) {p : Pt} (h : p ∈ onP pts x) : leadP (onP pts x) (onP pts x) p = p := lead_same (on_mv hx hp wx).o h
/-- a value that is led is alike, over no points -/
theorem alike_led {olds news : List Pt} (hx : VOk n bo x) (M : MvOk bo c olds news) (sub : ∀ p ∈ supV x, p ∈ olds) (wx : vw x < 1000) : placedV (movedV x olds news) [] = placedV x [] := by
  have so := sup_ok hx
  have sm := sup_moved hx M sub wx
  have mo := moved_ok hx M.o M.n M.l sub wx
  have S : MvOk bo c (supV x) (supV (movedV x olds news)) := by
    rw [sm]
    exact ⟨so, lead_ok M.o M.n M.l so.asc sub, by simp⟩
  have e1 : movedV x olds news = movedV x (supV x) (supV (movedV x olds news)) := by
    refine moved_congr hx fun p hp => ?_
    rw [sm, lead_self hp]
  have nil : PtsOk c [] := .nil
  have N := on_mv mo.1 nil (by omega)
  have o1 : onP [] (movedV x olds news) = supV (movedV x olds news) := by
    show ascP ([] ++ restP [] (supV (movedV x olds news))) = _
    rw [rest_nil, List.nil_append]
    exact asc_self (sup_ok mo.1)
  have o2 : onP [] x = supV x := by
    show ascP ([] ++ restP [] (supV x)) = _
    rw [rest_nil, List.nil_append]
    exact asc_self so
  have d : atB [] (movedV x olds news) = atB [] x := by
    show ascP ([] ++ gapsP [] [] (restP [] (supV (movedV x olds news))) 1) = ascP ([] ++ gapsP [] [] (restP [] (supV x)) 1)
    have g : ∀ l : List Pt, gapN [] l 0 = l.length := fun l => by
      have e := shape_nil l
      unfold shapeP at e
      rw [rest_nil] at e
      simpa using e
    simp only [gapsP, rest_nil, List.range_succ, List.range_zero, List.nil_append, List.flatMap_cons, List.flatMap_nil, List.append_nil, g]
    rw [sm, List.length_map]
  show movedV (movedV x olds news) (onP [] (movedV x olds news)) (atB [] (movedV x olds news)) = movedV x (onP [] x) (atB [] x)
  rw [o1] at N ⊢
  rw [d] at N ⊢
  rw [o2]
  have e2 : movedV (movedV x olds news) (supV (movedV x olds news)) (atB [] x) = movedV (movedV x (supV x) (supV (movedV x olds news))) (supV (movedV x olds news)) (atB [] x) := by rw [← e1]
  rw [e2]
  exact moved_comp hx S ⟨S.n, N.n, N.l⟩ (fun p hp => hp) wx
end
end G
set_option Elab.async false
set_option linter.all false
set_option maxRecDepth 100000
set_option maxHeartbeats 2000000
/-! defs with a keyword-only parameter, promised where no repr is under way -/
namespace G
open PySem L2 PySem.Spec PyProof.Rows
section
variable {X : Cx} {k n : Nat} {f : Addr} {fd : FuncData} {ps ks : List Str} {sp : Sp} {x : Str} {p pos : Pos} {e : Expr} {es : List Expr} {kws : List Keyword} {t tk : TA} {g : List Value → List Value → List Value} {gV : List V → List V → List V}
/-- f(e, .., k = v, ..) -/
theorem peG_callN (F : FnG X.prog X.w X.K X.mg X.base k f fd ps sp) (nr : NoRepr X.A) (room : Room k X.A) (hg : Gl X x) (hm : X.mg x = some (.ref f)) (hk : PySem.W.keepIn X.K (.ref f) = true) (hb : KBn X.K fd ps n ks g gV) (ha : PA X (e :: es) t) (hkw : PK X kws tk)
    (named : (backToKw pos (keywordEach kws X.env)).all (·.1.isSome) = true := by rfl) (names : (backToKw pos (keywordEach kws X.env)).filterMap (·.1) = ks := by rfl) (hdb : (x == ("__debug__" : Str)) = false := by decide)
    (he : starEach (e :: es) X.env = (false, eval e X.env) :: starEach es X.env := by rfl)
    (plain : ((backTo pos (starEach (e :: es) X.env)).any (·.1) || (backToKw pos (keywordEach kws X.env)).any (·.1.isNone)) = false := by rfl) :
    PE X (.Call (.Name x p) (e :: es) kws pos) (tCallN n ks.length sp gV E0 t tk) := by
  constructor
  intro pins z σ H Q I h
  refine wpAny_Call_Name_kw (ld_glob I hg hm ?_ hdb)
  refine PySem.W.callWith_KW (h₀ := X.base) I.ok.mod.kin hk named (thn (ha.run pos pins z σ H _ I h) fun us z1 ⟨vs, H1, I1, r, q⟩ => ?_) plain he
  refine thn (hkw.run pos pins z1 σ H1 _ I1 q) fun ws z2 ⟨zs, H2, I2, rz, l1, l2, want⟩ => ⟨I2.kIn, ?_⟩
  rw [names]
  have both := hb.rel r rz
  refine wpAny_call (codeAny_mono (F.run X.A X.stack z2 H2 ⟨us, ks.zip ws⟩ (g us ws) (gV vs zs) Q E0 nr room I2.env0 (hb.to z2 us ws I2.kIn (r.length.symm.trans l1) (rz.length.symm.trans l2)) both want) fun res z3 back => ?_)
  cases res with
  | error e => exact False.elim back
  | ok fl =>
    cases fl with
    | ret u => exact I2.after back
    | next => exact False.elim back
    | brk => exact False.elim back
    | cont => exact False.elim back
/-- f(e, ..) where defaults fill up -/
theorem peG_callD {ds : List Value} {dvs : List V} (F : FnG X.prog X.w X.K X.mg X.base k f fd ps sp) (nr : NoRepr X.A) (room : Room k X.A) (hg : Gl X x) (hm : X.mg x = some (.ref f)) (hk : PySem.W.keepIn X.K (.ref f) = true) (hb : Binds X.K fd ps ds) (hd : Vals dvs ds)
    (ha : PA X (e :: es) t) (hdb : (x == ("__debug__" : Str)) = false := by decide) (he : starEach (e :: es) X.env = (false, eval e X.env) :: starEach es X.env := by rfl) (hpl : (backTo pos (starEach es X.env)).any (·.1) = false := by rfl) :
    PE X (.Call (.Name x p) (e :: es) [] pos) (tCall sp dvs E0 t) := by
  constructor
  intro pins z σ H Q I h
  refine wpAny_Call_Name_kw (ld_glob I hg hm ?_ hdb)
  refine PySem.W.callWith_K (h₀ := X.base) I.ok.mod.kin hk (thn (ha.run pos pins z σ H _ I h) fun us z1 ⟨vs, H1, I1, r, want⟩ => ⟨I1.kIn, ?_⟩) he hpl
  have want : sp (vs ++ dvs) H1 Q E0 := want
  have both := r.append hd
  have many : (us ++ ds).length = ps.length := by rw [← both.length]; exact F.len _ _ _ _ want
  refine wpAny_call (codeAny_mono (F.run X.A X.stack z1 H1 ⟨us, []⟩ (us ++ ds) (vs ++ dvs) Q E0 nr room I1.env0 (hb z1 us I1.kIn many) both want) fun res z2 back => ?_)
  cases res with
  | error e => exact False.elim back
  | ok fl =>
    cases fl with
    | ret u => exact I1.after back
    | next => exact False.elim back
    | brk => exact False.elim back
    | cont => exact False.elim back
end
section
variable {P : Program} {w : World} {K : PySem.W.Frag} {mg : Str → Option Value} {base : Heap}
/-- such a def by its body -/
theorem fnGD_ok {x qual : Str} {params : Arguments} {bd : List Stmt} {scope : Scope} {dvs : List V} {kws : List (Str × V)} {f : Addr} {fd : FuncData} {N ps : List Str} {k : Nat} {sp : Sp} (F : FunD K x qual params bd scope dvs kws f fd) (S : FnScope N ps scope) (len : ∀ vs H Q E, sp vs H Q E → vs.length = ps.length)
    (body : ∀ (cd : Value) (R : Around) (up : List Env) (z : Shared) (H : Hp) (vs : List V) (Q : VK) (E : XK), NoRepr (R.deeper (envOfC qual scope z.heap.objs.size f cd)) →
      Room k (R.deeper (envOfC qual scope z.heap.objs.size f cd)) → sp vs H Q E →
      ∃ t, PSs (cxOf CX0 P w K mg base N qual scope f cd R up z H E).nox bd t ∧ t { nx := fun _ H' => Q .non H', rt := Q } (L2.start N vs) H) : FnG P w K mg base (k + 1) f fd ps sp := by
  obtain ⟨oc, od, dV, kV, doc, pm, an, cd, ct, osl, rfl, look, code, _, _⟩ := F.ex
  constructor
  · exact len
  intro R up z H gs ys vs Q E nr room e0 bind rel want
  have many := len _ _ _ _ want
  have stays : ∀ b o, base.get? b = some o → z.heap.get? b = some o := fun b o e => (e0.bs b o e).1
  have inK : K.In z.heap := e0.mod.kin.keeps stays
  have places : ∀ y ∈ ps.zip ys, scope.names.lookup y.1 = some .local ∨ (scope.names.lookup y.1 = some .cell ∧ ((cellsFrom (z.heap.objs.size + 1) scope.names []).lookup y.1).isSome = true) := by
    rintro ⟨n, v⟩ hy
    rcases S.par n (List.of_mem_zip hy).1 with q | q
    · exact Or.inl q
    · exact Or.inr ⟨q, PySem.W.cellsFrom_some _ _ _ (Or.inl q)⟩
  refine codeAny_call_function room.depth (inK _ _ look) rfl S.co S.gen rfl (PySem.W.codeRec_of inK code) (bind _ _ _ _ ?_)
  refine wpAny_newFunctionEnv_cells S.kind places fun env he z1 y => ?_
  subst he
  refine ⟨(e0.mod.nolimit.keeps stays).keeps y.toInCall.keep, codeAny_func ?_⟩
  obtain ⟨t, ht, done⟩ := body cd R up z H vs Q E nr (room.deeper _) want
  have start0 : Inv (cxOf CX0 P w K mg base N qual scope f cd R up z H E) [] (L2.start N vs) H z1 := inv_start S room.hd e0 many rel y
  refine wpAny_mono (ht.nox.run [] z1 (L2.start N vs) H _ start0 done) (fun fl z2 hz => ?_) fun e z2 hz => hz
  cases fl with
  | ret u =>
    obtain ⟨v, σ', H', J, rv, q⟩ := hz
    exact ⟨v, H', J.os, J.bare, J.base, J.hok, rv, q⟩
  | next =>
    obtain ⟨σ', H', J, q⟩ := hz
    exact ⟨V.non, H', J.os, J.bare, J.base, J.hok, rfl, q⟩
  | brk =>
    obtain ⟨_, _, _, q⟩ := hz
    cases q
  | cont =>
    obtain ⟨_, _, _, q⟩ := hz
    cases q
end
end G
set_option Elab.async false
set_option linter.all false
set_option maxRecDepth 100000
set_option maxHeartbeats 4000000
set_option exponentiation.threshold 10000
/-! values may be shown by repr -/
namespace G
open PySem L2 NdefX
theorem int_len {i : Int} (h : i.natAbs < 2 ^ 1900) : (PyData.shown (.int i)).length ≤ 1921 ∧ i.natAbs.log2 < 1920 := by
  have hl := PySem.Flt.log2_lt_of (show 0 < 1900 by omega) h
  refine ⟨?_, by omega⟩
  have e : PyData.shown (.int i) = Str.ofString (toString i) := by simp [PyData.shown]
  rw [e]
  exact PyProof.Rows.int_text_len_1921 (by omega)
/-- data that repr shows: of at most so many parts -/
structure ShD (m : Nat) (d : PyData) : Prop where
  s : d.showable = true
  l : d.leavesShort 1921 = true
  b : d.bulk + 1 ≤ m
theorem sh_pt {x : Pt} (h : Sz 1900 x) : ShD 3 (ptD x) := by
  obtain ⟨a1, a2⟩ := int_len h.1
  obtain ⟨b1, b2⟩ := int_len h.2
  refine ⟨?_, ?_, ?_⟩
  · simp only [ptD, PyData.showable, PyData.showableAll, Bool.and_eq_true, decide_eq_true_eq]; exact ⟨a2, b2, trivial⟩
  · simp only [ptD, PyData.leavesShort, PyData.leavesShortAll, Bool.and_eq_true, decide_eq_true_eq]; exact ⟨a1, b1, trivial⟩
  · simp [ptD, PyData.bulk, PyData.bulkAll]
theorem sh_all {ds : List PyData} {f : PyData → Nat} (h : ∀ d ∈ ds, ShD (f d) d) : PyData.showableAll ds = true ∧ PyData.leavesShortAll 1921 ds = true ∧ PyData.bulkAll ds ≤ (ds.map f).sum := by
  induction ds with
  | nil => simp [PyData.showableAll, PyData.leavesShortAll, PyData.bulkAll]
  | cons d ds ih =>
    obtain ⟨i1, i2, i3⟩ := ih fun e he => h e (List.mem_cons_of_mem _ he)
    obtain ⟨s, l, b⟩ := h d List.mem_cons_self
    refine ⟨by simp only [PyData.showableAll, s, i1, Bool.and_self], by simp only [PyData.leavesShortAll, l, i2, Bool.and_self], ?_⟩
    simp only [PyData.bulkAll, List.map_cons, List.sum_cons]; omega
theorem sh_tup {ds : List PyData} {f : PyData → Nat} (h : ∀ d ∈ ds, ShD (f d) d) : ShD ((ds.map f).sum + 1) (.tuple ds) := by
  obtain ⟨i1, i2, i3⟩ := sh_all h
  exact ⟨by simp only [PyData.showable]; exact i1, by simp only [PyData.leavesShort]; exact i2, by simp only [PyData.bulk]; omega⟩
theorem sh_str {s : Str} (h : PyData.strOk s = true) : ShD (s.length + 1) (.str s) := by
  refine ⟨rfl, ?_, ?_⟩
  · have := PyData.leavesShort_of_canLay0 1921 (.str s) (by simpa [PyData.canLay0] using h) rfl
    exact this
  · simp [PyData.bulk, PySem.Str.length]
theorem sh_pts {l : List Pt} (h : ∀ x ∈ l, Sz 1900 x) : ShD (3 * l.length + 1) (.tuple (l.map ptD)) := by
  have z : ∀ d ∈ l.map ptD, ShD 3 d := fun d hd => by
    obtain ⟨x, hx, rfl⟩ := List.mem_map.mp hd
    exact sh_pt (h x hx)
  obtain ⟨s, y, b⟩ := sh_tup (f := fun _ => 3) z
  refine ⟨s, y, ?_⟩
  have e : ((l.map ptD).map fun _ => 3).sum = 3 * l.length := by
    clear z s y b h
    induction l with
    | nil => rfl
    | cons x l ih => simp only [List.map_cons, List.sum_cons, ih, List.length_cons]; omega
  omega
theorem vl_sh {n b : Nat} {v : Vl} (h : VOk n b v) : gN n b ≤ 1900 → ShD (12 * vw v) (vlD v) := by
  have all : ∀ {l : List Vl}, (∀ v ∈ l, ShD (12 * vw v) (vlD v)) → PyData.showableAll (vlDs l) = true ∧ PyData.leavesShortAll 1921 (vlDs l) = true ∧ PyData.bulkAll (vlDs l) ≤ 12 * vws l := by
    intro l
    induction l with
    | nil => intro _; simp [vlDs, PyData.showableAll, PyData.leavesShortAll, PyData.bulkAll]
    | cons x l ih =>
      intro q
      obtain ⟨i1, i2, i3⟩ := ih fun v hv => q v (List.mem_cons_of_mem _ hv)
      obtain ⟨s, y, b⟩ := q x List.mem_cons_self
      refine ⟨by simp only [vlDs, PyData.showableAll, s, i1, Bool.and_self], by simp only [vlDs, PyData.leavesShortAll, y, i2, Bool.and_self], ?_⟩
      simp only [vlDs, PyData.bulkAll, vws]; omega
  induction h with
  | word h o =>
    intro _
    obtain ⟨s, y, b⟩ := sh_str o.1
    exact ⟨s, y, by rw [vlD, vw]; omega⟩
  | @pt n b x h s =>
    intro hg
    obtain ⟨s, y, b⟩ := sh_pt (s.mono (Nat.le_trans (gN_ge n b) hg))
    exact ⟨s, y, by rw [vlD, vw]; omega⟩
  | @row n b vs h0 h ih =>
    intro hg
    obtain ⟨i1, i2, i3⟩ := all fun v hv => ih v hv (Nat.le_trans (gN_succ n b) hg)
    obtain ⟨r1, r2, r3⟩ := sh_str row_ok
    have r4 : ("row" : Str).length = 3 := by decide +kernel
    refine ⟨by simp only [vlD, PyData.showable, PyData.showableAll, r1, i1, Bool.and_self], by simp only [vlD, PyData.leavesShort, PyData.leavesShortAll, i2, Bool.and_true]; exact r2, ?_⟩
    simp only [vlD, PyData.bulk, PyData.bulkAll, vw] at r3 ⊢
    omega
  | @set n b ps ms hp h ih =>
    intro hg
    obtain ⟨i1, i2, i3⟩ := all fun v hv => ih v hv hg
    obtain ⟨p1, p2, p3⟩ := sh_pts fun x hx => (hp.sz x hx).mono (Nat.le_trans (gN_ge (n + 1) b) hg)
    obtain ⟨r1, r2, r3⟩ := sh_str set_ok
    have r4 : ("set" : Str).length = 3 := by decide +kernel
    simp only [PyData.showable, PyData.leavesShort, PyData.bulk] at p1 p2 p3 r3
    refine ⟨by simp only [vlD, PyData.showable, PyData.showableAll, p1, i1, Bool.and_self], ?_, ?_⟩
    · simp only [vlD, PyData.leavesShort, PyData.leavesShortAll, p2, i2, Bool.and_true]
      simpa only [PyData.leavesShort] using r2
    · simp only [vlD, PyData.bulk, PyData.bulkAll, vw]
      omega
theorem sh_small {m : Nat} {d : PyData} (h : ShD m d) (hm : m ≤ 8000) : d.shown.length ≤ sizeLine := by
  have := PyData.shown_le_bulk 1921 (by omega) d h.l
  have := h.b
  have : 1923 * d.bulk ≤ 1923 * 8000 := Nat.mul_le_mul_left _ (by omega)
  rw [sizeLine_eq]
  omega
/-- repr of a value -/
theorem repr_vl {K : PySem.W.Frag} {H : Hp} {u : V} {n b : Nat} {v : Vl} {Q : VK} (d : Dp K H u (vlD v)) (h : VOk n b v) (hg : gN n b ≤ 1900) (hn : n ≤ 28) (hw : vw v ≤ 600) (q : Q (.str (vlD v).shown) H) : rReprD K [u] H Q := by
  have s := vl_sh h hg
  exact ⟨u, vlD v, rfl, d.up, s.s, vl_lay h, by have := vl_depth h; omega, sh_small s (by omega), q⟩
end G
set_option Elab.async false
set_option linter.all false
set_option maxRecDepth 100000
set_option maxHeartbeats 4000000
set_option exponentiation.threshold 10000
namespace G
-- RDX tDZ, tDGet2
open PySem L2 LamX NdefX
/-! ### alike_moves: a def with a keyword-only parameter -/
abbrev s_alike_moves : Stmt := top 30
abbrev N_alike_moves : List Str := ["one", "other", "points", "news", "old"]
abbrev P_alike_moves : List Str := ["one", "other", "points"]
theorem sc_alike_moves : FnScope N_alike_moves P_alike_moves (defScope s_alike_moves) := ⟨rfl, rfl, rfl, by decide +kernel, rfl, by decide +kernel, by decide +kernel⟩
/-- what stands written of it: dA its default, the tuple of nothing -/
structure AlkD (K : PySem.W.Frag) (mg : Str → Option Value) where
  f : Addr
  fd : FuncData
  dA : Addr
  ds : List Value
  gg : List Value → List Value → List Value
  F : FunD K "alike_moves" "alike_moves" (defArgs s_alike_moves) (defBody s_alike_moves) (defScope s_alike_moves) [] [("points", .ref dA)] f fd
  g : mg "alike_moves" = some (.ref f)
  dT : ∀ H, SqT K H dA []
  dv : Vals [V.ref dA] ds
  b : Binds K fd P_alike_moves ds
  kb : KBn K fd P_alike_moves 2 ["points"] gg (fun vs zs => vs ++ zs)
section
variable {P : Program} {w : World} {K : PySem.W.Frag} {mg : Str → Option Value} {base : Heap}
def sp_alk (K : PySem.W.Frag) (T : List (Addr × Str)) (n : Nat) : Sp := fun vs H Q _ => ∃ (v u : V) (p : Addr) (x y : Vl) (pw : List V) (pts : List Pt) (bo b : Nat), vs = [v, u, .ref p] ∧ Dp K H v (vlD x) ∧ Dp K H u (vlD y) ∧ VOk n bo x ∧ VOk n bo y ∧ Nf x ∧ Nf y ∧ gN n bo ≤ 1900 ∧ vw x < 500 ∧ vw y < 500 ∧
  SqT K H p pw ∧ DpAll K H pw (pts.map ptD) ∧ PtsOk b pts ∧ b ≤ bo ∧ gN n (gB b) ≤ 1900 ∧ pts.length < 400 ∧ Tabs T H ∧
  (placedV x pts = placedV y pts → ∀ (r : V) (H' : Hp), Kt M0 H H' → Tabs T H' → Dp K H' r (mvD (onP pts x) (onP pts y)) → Q r H') ∧
  (placedV x pts ≠ placedV y pts → ∀ (H' : Hp), Kt M0 H H' → Tabs T H' → Q .non H')
theorem ok_alike_moves (W : Ds K mg) (B : Tbs W base) (n : Nat) (AD : AlkD K mg) : FnG P w K mg base (3 * n + 12) AD.f AD.fd P_alike_moves (sp_alk K B.T n) := by
  refine fnGD_ok AD.F sc_alike_moves (fun vs H Q E h => ?len) (fun cdv A outer s H vs Q E nr hr h => ?body)
  case len =>
    obtain ⟨v, u, p, x, y, pw, pts, bo, b, rfl, _⟩ := h
    rfl
  case body =>
    obtain ⟨v, u, p, x, y, pw, pts, bo, b, rfl, dx, dy, ox, oy, nx, ny, hbo, wx, wy, sp, dp, op, hbb, hb, hl, tb, k1, k2⟩ := h
    have nd := sc_alike_moves.nd
    have hu := hu_of hr
    have hu64 := hr.units
    have hu65 := hu65_of hr
    refine ⟨_, (pss_cons (ps_if (pt_not (pt_val (peG_call (ok_are_alike W B n) nr (hr.mono (by first | decide | omega)) rfl W.D_are_alike.g W.D_are_alike.F.kp W.D_are_alike.b (pa_cons (pv 2) (pa_cons (pv 0) (pa_cons (pv 1) pa_nil))))))
     (pss_one (ps_ret pe_non))
     pss_nil)
  (pss_cons (ps_set (i := 3) nd rfl (by first | exact Or.inl rfl | exact Or.inr rfl) (pe_dictZip K rfl (by rfl) W.T.b_dict (by rfl) W.T.b_zip hu64 (pa_cons (pe_call (ok_support W n) (hr.mono (by first | decide | omega)) rfl W.D_support.g W.D_support.F.kp W.D_support.b .nil pass0 (pa_cons (pv 0) pa_nil)) (pa_cons (pe_call (ok_support W n) (hr.mono (by first | decide | omega)) rfl W.D_support.g W.D_support.F.kp W.D_support.b .nil pass0 (pa_cons (pv 1) pa_nil)) pa_nil))))
  (pss_one (ps_ret (pe_callTy (c_tuple K) (by rfl) W.T.b_tuple (by decide +kernel) (pa_cons (pe_lc (own := [("old", 4)]) rfl nd (i_tup K (pe_call (ok_merged_points W) (hr.mono (by first | decide | omega)) rfl W.D_merged_points.g W.D_merged_points.F.kp W.D_merged_points.b .nil pass0 (pa_cons (pe_call (ok_support W n) (hr.mono (by first | decide | omega)) rfl W.D_support.g W.D_support.F.kp W.D_support.b .nil pass0 (pa_cons (pv 0) pa_nil)) (pa_cons (pv 2) pa_nil)))) (blkOk_by (N := N_alike_moves) (sc := defScope s_alike_moves) (by decide +kernel)) (fun _ _ _ _ _ => (pg_name (i := 4) nd rfl (by first | exact Or.inl rfl | exact Or.inr rfl))) (fun _ _ _ _ _ => pts_nil) (fun _ _ _ _ _ => (pe_tup (pa_cons (pv 4) (pa_cons (pe_dget2 hu (pv 3) (pv 4) (pv 4) ⟨by rfl, by rfl, by rfl, by rfl⟩) pa_nil))))) pa_nil)))))), ?_⟩
    simp only [tSeq, tIfS, tNext, tRet, tRetN, tAsg, tDrop, tPar, tCons, tNil, tCB, tVar, tC, tOp, rI, rI0, rU, tTest, tB, tTup, tLst, gName, tIf, tAnd, tOr, tNot, tAndV, tOrV, tNotV, tUn, tCall, tChain, tSl, tNoPart, tPart, tBM, tBM0, tDGet, sDPut, tAugS, ipI, tAug, rIxT, rIxL, rMulK, rLenK, rLstK, tTruK, gTup, gCons, gNil, rEq, rNe, scal, tNever, rMulK, rGcd, L2.start, List.map, List.length, List.replicate, List.cons_append, List.nil_append, List.append_nil, List.set, List.set_cons_zero, List.set_cons_succ, List.getElem?_cons_succ, List.getElem?_cons_zero, Option.some.injEq, List.cons.injEq, V.int.injEq, V.str.injEq, V.bl.injEq, V.ref.injEq, and_true, true_and, exists_eq_left, exists_eq_left', exists_eq_right, exists_eq_right', exists_eq, exists_and_left, exists_and_right, and_assoc, exists_false, false_and, and_false, or_false, false_or, reduceCtorEq, Nat.reduceAdd, Nat.reduceSub, List.append_assoc, eq_self, if_true, if_false, Bool.false_eq_true, decide_eq_true_eq, List.length_cons, List.length_nil, tDZ, tDGet2]
    have szL := sizeLine_eq
    have g1 := gN_ge n bo
    have sx := sup_ok ox
    have lx := sup_len ox
    have ly := sup_len oy
    refine ⟨v, u, p, x, y, pw, pts, bo, b, rfl, dx, dy, ox, oy, nx, ny, hbo, by omega, by omega, sp, dp, op, hbb, hb, by omega, tb, fun H1 q1 t1 => ⟨_, rfl, ?_⟩⟩
    by_cases e : placedV x pts = placedV y pts
    · rw [eqB_iff.mpr e, if_neg (by simp)]
      have A := alike_move ox oy ny op (by omega) (by omega) e
      have dx1 := dv_tk dx q1.tk0
      refine ⟨v, x, bo, rfl, dx1, ox, by omega, by omega, fun a H2 us q2 ha da => ?_⟩
      refine ⟨u, y, bo, rfl, dv_tk dy (q1.tk0.trans (Tk.of0 q2)), oy, by omega, by omega, fun c H3 ws q3 hc dc => ?_⟩
      have ha3 : SqT K H3 a us := sqT_tk (Tk.of0 q3) ha
      obtain ⟨kb, kl, led⟩ := keyed_pts (pts_tk da (Tk.of0 q3)) dc (by rw [A.sup]; simp) sx.asc.nodup
      refine ⟨a, rfl, c, rfl, us, ha3, ws, hc, _, kb, by rw [kl]; omega, fun d hd => ?_⟩
      have L := led d hd
      have q03 := q2.trans q3
      have q4 := q03.trans (Kp.new (o := .dT (((supV x).zip ws).map fun p => (ptK p.1, p.2))) hd)
      have dx4 := dv_tk dx1 (Tk.of0 q4)
      refine tlcT ?_
      simp only [tSeq, tIfS, tNext, tRet, tRetN, tAsg, tDrop, tPar, tCons, tNil, tCB, tVar, tC, tOp, rI, rI0, rU, tTest, tB, tTup, tLst, gName, tIf, tAnd, tOr, tNot, tAndV, tOrV, tNotV, tUn, tCall, tChain, tSl, tNoPart, tPart, tBM, tBM0, tDGet, sDPut, tAugS, ipI, tAug, rIxT, rIxL, rMulK, rLenK, rLstK, tTruK, gTup, gCons, gNil, rEq, rNe, scal, tNever, rMulK, rGcd, L2.start, List.map, List.length, List.replicate, List.cons_append, List.nil_append, List.append_nil, List.set, List.set_cons_zero, List.set_cons_succ, List.getElem?_cons_succ, List.getElem?_cons_zero, Option.some.injEq, List.cons.injEq, V.int.injEq, V.str.injEq, V.bl.injEq, V.ref.injEq, and_true, true_and, exists_eq_left, exists_eq_left', exists_eq_right, exists_eq_right', exists_eq, exists_and_left, exists_and_right, and_assoc, exists_false, false_and, and_false, or_false, false_or, reduceCtorEq, Nat.reduceAdd, Nat.reduceSub, List.append_assoc, eq_self, if_true, if_false, Bool.false_eq_true, decide_eq_true_eq, List.length_cons, List.length_nil, tDZ, tDGet2]
      refine ⟨v, x, bo, rfl, dx4, ox, by omega, by omega, fun a2 H5 us5 q5 ha5 da5 => ?_⟩
      have tk5 : Tk H H5 := (q1.tk0.trans (Tk.of0 q4)).trans (Tk.of0 q5)
      refine ⟨a2, p, us5, pw, supV x, pts, bo, rfl, ha5, sqT_tk tk5 sp, da5, pts_tk dp tk5, sx, op.mono hbb, by omega, by omega, by omega, fun m H6 ws6 r q6 hm dm or6 mem => ?_⟩
      have er : r = onP pts x := asc_ext or6.ok or6.asc A.mv.o.asc fun z => by rw [mem, on_mem ox op (by omega), or_comm]
      subst er
      have q56 := q5.trans q6
      have L6 : LedBy K H6 d (supV x) (supV y) := by
        obtain ⟨kvs, hk, _, _⟩ := L.ex
        exact L.tk (by rw [hk]; exact q56 _ _ hk fun z => z) (Tk.of0 q56)
      have al : (onP pts x).length ≤ pts.length + (supV x).length := by
        rw [← on_asc ox op (by omega)]
        have := asc_le (l := pts ++ supV x) (b := bo) fun z hz => by
          rcases List.mem_append.mp hz with w | w
          · exact ⟨op.ok z w, (op.sz z w).mono hbb⟩
          · exact ⟨sx.ok z w, sx.sz z w⟩
        rw [List.length_append] at this
        exact this
      have ml := A.mv.l
      refine lcTe kr0 ((onP pts x).map ptD) (((onP pts x).zip (onP pts y)).map mpD) trivial (by rw [List.length_map, List.length_zip]; omega) (by rw [List.length_map, List.length_map, List.length_zip]; omega) hm dm (ptDs_tup _) (mps_tup _) (fun i z e2 u2 H7 e1 e3 du q7 _ Q' q => ?_) (fun D H7 vs7 hD q7 _ hd7 da7 => ?_)
      · rw [List.getElem?_map] at e1 e3
        cases w1 : (onP pts x)[i]? with
        | none => rw [w1] at e1; cases e1
        | some o =>
          rw [w1] at e1
          cases e1
          have w2 := A.mv.at_ w1
          have w3 : ((onP pts x).zip (onP pts y))[i]? = some (o, leadP (onP pts x) (onP pts y) o) := List.getElem?_zip_eq_some.mpr ⟨w1, w2⟩
          rw [w3] at e3
          cases e3
          obtain ⟨kvs, hk, _, _⟩ := L6.ex
          have hk7 := q7 _ _ hk fun z => z
          have L7 : LedBy K H7 d (supV x) (supV y) := L6.tk (by rw [hk]; exact hk7) (Tk.of0 q7)
          have isd : IsD H7 d := Or.inr ⟨kvs, Or.inl hk7⟩
          have mo := (on_mem ox op (by omega) o).mp (List.mem_of_getElem? w1)
          -- what the table tells, or the point itself
          have told : ∃ ov, DGet H7 d u2 ov ∧ Dp K H7 (ov.getD u2) (ptD (leadP (onP pts x) (onP pts y) o)) := by
            by_cases mx : o ∈ supV x
            · obtain ⟨u3, g3, d3⟩ := L7.get mx du
              rw [A.lead mx] at d3
              exact ⟨_, g3, d3⟩
            · obtain ⟨ov, g3, h3⟩ := L7.has du
              rw [decide_eq_false mx] at h3
              have n3 : ov = none := by
                cases ov with
                | none => rfl
                | some _ => cases h3
              subst n3
              refine ⟨_, g3, ?_⟩
              rw [A.fix o (mo.resolve_right mx)]
              exact du
          obtain ⟨ov, g3, d3⟩ := told
          simp only [tSeq, tIfS, tNext, tRet, tRetN, tAsg, tDrop, tPar, tCons, tNil, tCB, tVar, tC, tOp, rI, rI0, rU, tTest, tB, tTup, tLst, gName, tIf, tAnd, tOr, tNot, tAndV, tOrV, tNotV, tUn, tCall, tChain, tSl, tNoPart, tPart, tBM, tBM0, tDGet, sDPut, tAugS, ipI, tAug, rIxT, rIxL, rMulK, rLenK, rLstK, tTruK, gTup, gCons, gNil, rEq, rNe, scal, tNever, rMulK, rGcd, L2.start, List.map, List.length, List.replicate, List.cons_append, List.nil_append, List.append_nil, List.set, List.set_cons_zero, List.set_cons_succ, List.getElem?_cons_succ, List.getElem?_cons_zero, Option.some.injEq, List.cons.injEq, V.int.injEq, V.str.injEq, V.bl.injEq, V.ref.injEq, and_true, true_and, exists_eq_left, exists_eq_left', exists_eq_right, exists_eq_right', exists_eq, exists_and_left, exists_and_right, and_assoc, exists_false, false_and, and_false, or_false, false_or, reduceCtorEq, Nat.reduceAdd, Nat.reduceSub, List.append_assoc, eq_self, if_true, if_false, Bool.false_eq_true, decide_eq_true_eq, List.length_cons, List.length_nil, tDZ, tDGet2]
          exact ⟨isd, ov, g3, by omega, fun t ht => q _ _ (Kp.new ht) trivial (.tup upd_same (.cons (dp_tk (Tk.new ht) _ _ (ptD_tup _) du) (.cons (dp_tk (Tk.new ht) _ _ (ptD_tup _) d3) .nil)))⟩
      · have vl : vs7.length = (onP pts x).length := by rw [dps_len da7, List.length_map, List.length_zip]; omega
        refine ⟨D, vs7, rfl, Or.inl ⟨sqL_mk hd7, fun t ht => ?_⟩⟩
        exact k1 e _ _ (q1.trans (Kt.of0 (((q4.trans q56).trans q7).trans (Kp.new ht)))) (tabs_kp t1 (((q4.trans q56).trans q7).trans (Kp.new ht))) (.tup upd_same (dps_tk (Tk.new ht) _ _ (mps_tup _) da7))
    · have en : eqB (placedV x pts) (placedV y pts) = false := by
        cases z : eqB (placedV x pts) (placedV y pts) with
        | false => rfl
        | true => exact absurd (eqB_iff.mp z) e
      rw [en, if_pos (by simp)]
      exact k2 e H1 q1 t1
end
end G
set_option Elab.async false
set_option linter.all false
set_option maxRecDepth 100000
set_option maxHeartbeats 2000000
/-! comprehensions over zip of two lists: what they make, item by item -/
namespace G
open PySem L2 PySem.Spec PyProof.Rows
def LcZw (K : PySem.W.Frag) (g : TG) (tt : TT) (te : TE) (vs : List Nat) (σ : L2.St) (Q : VK) (us : List V) (H1 : Hp) : Prop := ∃ (a b : Addr) (xs ys : List V), us = [V.ref a, V.ref b] ∧ SqL K H1 a xs ∧ SqL K H1 b ys ∧ ∀ D, H1 D = none →
    ∃ W : Nat → Nat → Hp → Prop, (∃ m, W 0 m (upd H1 D (.lst []))) ∧ ∀ i m H, W i m H →
      ((Itz K a b).stop i H ∧ Q (.ref D) H) ∨ ((Itz K a b).go i H ∧ ∃ Nx : Hp → Prop, (∀ H', Nx H' → ∃ m', m' < m ∧ W (i + 1) m' H') ∧ ∀ x H', (Itz K a b).yld i H x H' → g x (wipe σ vs) H' fun σ2 H2 => wipe σ2 vs = wipe σ vs ∧ tt σ2 H2 fun b H3 =>
        if b = true then te σ2 H3 fun y H4 => ∃ acc, H4 D = some (.lst acc) ∧ acc.length < sizeLine ∧ Nx (upd H4 D (.lst (acc ++ [y]))) else Nx H3)
theorem tlcZw {K : PySem.W.Frag} {ta : TA} {g : TG} {tt : TT} {te : TE} {vs : List Nat} {σ : L2.St} {H : Hp} {Q : VK} (h : ta σ H (LcZw K g tt te vs σ Q)) : tLc (iZip K ta) g tt te vs σ H Q := h
theorem lcZe {K : PySem.W.Frag} {g : TG} {te : TE} {vs : List Nat} {σ : L2.St} {H1 : Hp} {Q : VK} {a b : Addr} {xs ys : List V} (es : List PyData) (tup : tupDs es = true) (ha : H1 a = some (.lst xs)) (hb : H1 b = some (.lst ys)) (hl : xs.length = ys.length) (he : es.length = xs.length) (hn : xs.length < sizeLine)
    (hs : ∀ (i : Nat) (x y : V) (T : Addr) (H' : Hp) (e : PyData), xs[i]? = some x → ys[i]? = some y → es[i]? = some e → Kp M0 H1 H' → H' T = none → ∀ N : VK, (∀ u H3, Kp M0 (upd H' T (.tup [x, y])) H3 → Dp K H3 u e → N u H3) →
      g (.ref T) (wipe σ vs) (upd H' T (.tup [x, y])) fun σ2 H2 => wipe σ2 vs = wipe σ vs ∧ te σ2 H2 N)
    (hq : ∀ (D : Addr) (us : List V) (H' : Hp), H1 D = none → Kp M0 H1 H' → H' D = some (.lst us) → DpAll K H' us es → Q (.ref D) H') : LcZw K g tYes te vs σ Q [.ref a, .ref b] H1 := by
  refine ⟨a, b, xs, ys, rfl, sqL_mk ha, sqL_mk hb, fun D hD => ⟨fun i m H => m = xs.length - i ∧ i ≤ xs.length ∧ Kp M0 H1 H ∧ ∃ us, H D = some (.lst us) ∧ DpAll K H us (es.take i), ⟨xs.length, rfl, Nat.zero_le _, Kp.new hD, [], upd_same, .nil⟩, ?_⟩⟩
  rintro i m H ⟨rfl, hi, kp, us, hd, du⟩
  have qx : SqL K H a xs := sqL_mk (kp _ _ ha fun z => z)
  have qy : SqL K H b ys := sqL_mk (kp _ _ hb fun z => z)
  have ul : us.length = i := by rw [dps_len du, List.length_take]; omega
  by_cases hlt : i < xs.length
  · have hx : xs[i]? = some xs[i] := List.getElem?_eq_getElem hlt
    have hlt2 : i < ys.length := by omega
    have hy : ys[i]? = some ys[i] := List.getElem?_eq_getElem hlt2
    have ee : es[i]? = some (es[i]'(by omega)) := List.getElem?_eq_getElem (by omega)
    refine .inr ⟨⟨xs, ys, _, _, qx, qy, hx, hy⟩, fun H' => Kp M0 H1 H' ∧ ∃ us, H' D = some (.lst us) ∧ DpAll K H' us (es.take (i + 1)), fun H' ⟨k', h'⟩ => ⟨xs.length - (i + 1), by omega, rfl, hlt, k', h'⟩, fun v H' y => ?_⟩
    obtain ⟨T, x', y', rfl, hT, rfl, f1, f2⟩ := y
    refine hs i x' y' T H _ (f1 xs qx) (f2 ys qy) ee kp hT _ fun u H3 k3 d3 => ?_
    have k13 := (Kp.new (M := M0) (o := .tup [x', y']) hT).trans k3
    have hd3 := k13 _ _ hd fun z => z
    have tk : Tk H3 (upd H3 D (.lst (us ++ [u]))) := Tk.lst hd3
    refine ⟨us, hd3, by omega, (kp.trans k13).at hD, us ++ [u], upd_same, ?_⟩
    rw [take_snoc ee]
    have tt1 : tupDs (es.take i) = true := tupDs_all.mpr fun z hz => tupDs_all.mp tup z (List.mem_of_mem_take hz)
    have tt2 : tupD (es[i]'(by omega)) = true := tupDs_all.mp tup _ (List.mem_of_getElem? ee)
    exact dps_app (dps_tk (Tk.trans (Tk.of0 k13) tk) _ _ tt1 du) (dps_one (dp_tk tk _ _ tt2 d3))
  · have e : i = xs.length := by omega
    subst e
    rw [List.take_of_length_le (by omega)] at du
    exact .inl ⟨⟨xs, ys, qx, qy, Or.inl (Nat.le_refl _)⟩, hq D us H hD kp hd du⟩
end G
set_option Elab.async false
set_option linter.all false
set_option maxRecDepth 100000
set_option maxHeartbeats 4000000
set_option exponentiation.threshold 10000
namespace G
open PySem L2 LamX NdefX
section
variable {P : Program} {w : World} {K : PySem.W.Frag} {mg : Str → Option Value} {base : Heap}
/-! ### _law_draw_points -/
def sp__law_draw_points (K : PySem.W.Frag) : Sp := fun vs H Q _ => ∃ (d c : Addr) (many : Nat), vs = [.ref d, .int many] ∧ SrcAt H d c ∧ d ≠ c ∧ many ≤ 400 ∧
  ∀ (D : Addr) (H' : Hp) (us : List V) (l : List Pt), H D = none → Kp (Mdc d c) H H' → SrcAt H' d c → H' D = some (.lst us) → DpAll K H' us (l.map ptD) → PtsOk 100 l → (∀ x ∈ l, x.2 ≤ 3) → l.length = many → Q (.ref D) H'
def DrawI (K : PySem.W.Frag) (d c p : Addr) (many : Nat) (H : Hp) (i : Nat) (σ : L2.St) (H' : Hp) : Prop :=
  ∃ (l : List Pt) (us : List V) (here : Int) (v4 v5 : Option V), σ = [some (.ref d), some (.int many), some (.ref p), some (.int here), v4, v5] ∧ Kp (Mdc d c) H H' ∧ SrcAt H' d c ∧
  H' p = some (.lst us) ∧ DpAll K H' us (l.map ptD) ∧ l.length = i ∧ (PtsOk 100 l ∧ ∀ x ∈ l, x.2 ≤ 3) ∧ (∀ x ∈ l, x.1 < here * x.2) ∧ -2 ≤ here ∧ here ≤ 3 + 2 * i
theorem ok__law_draw_points (W : Ds K mg) : FnOk P w K mg base CX0 2 W.f__law_draw_points W.fd__law_draw_points P__law_draw_points (sp__law_draw_points K) := by
  refine W.D__law_draw_points.F.ok sc__law_draw_points (fun vs H Q E h => ?len) (fun cdv A outer s H vs Q E hr h => ?body)
  case len =>
    obtain ⟨d, c, many, rfl, _⟩ := h
    rfl
  case body =>
    obtain ⟨d, c, many, rfl, hS, ndc, hm, k⟩ := h
    have nd := sc__law_draw_points.nd
    have hu := hu_of hr
    have hu64 := hr.units
    have hu65 := hu65_of hr
    refine ⟨_, (pss_cons (ps_par (i := 2) (j := 3) rfl nd rfl rfl (by decide) rfl rfl (pa_cons (pe_lst pa_nil) (pa_cons (pe_op op_sub (pe_call (ok__law_pick W) (hr.mono (by first | decide | omega)) rfl W.D__law_pick.g W.D__law_pick.F.kp W.D__law_pick.b .nil pass0 (pa_cons (pv 0) (pa_cons pe_int pa_nil))) pe_int) pa_nil)) (by rfl))
  (pss_cons (ps_for PassesOwn.never rfl (pi_range1 rfl W.T.b_range (pa_cons (pv 1) pa_nil)) (pg_name (i := 4) nd rfl (by first | exact Or.inl rfl | exact Or.inr rfl))
     (pss_cons (ps_set (i := 5) nd rfl (by first | exact Or.inl rfl | exact Or.inr rfl) (pe_op op_add pe_int (pe_call (ok__law_pick W) (hr.mono (by first | decide | omega)) rfl W.D__law_pick.g W.D__law_pick.F.kp W.D__law_pick.b .nil pass0 (pa_cons (pv 0) (pa_cons pe_int pa_nil)))))
      (pss_cons (ps_expr (e_bm K (pe_bm PySem.F.plainAttrs_list PySem.F.slot_list_append PySem.F.type_list_append mt_append (pv 2) (pa_cons (pe_call (ok__law_point W) (hr.mono (by first | decide | omega)) rfl W.D__law_point.g W.D__law_point.F.kp W.D__law_point.b .nil pass0 (pa_cons (pe_op op_add (pe_op op_mulK (pv 3) (pv 5)) (pe_call (ok__law_pick W) (hr.mono (by first | decide | omega)) rfl W.D__law_pick.g W.D__law_pick.F.kp W.D__law_pick.b .nil pass0 (pa_cons (pv 0) (pa_cons (pv 5) pa_nil)))) (pa_cons (pv 5) pa_nil))) pa_nil))))
      (pss_one (ps_set (i := 3) nd rfl (by first | exact Or.inl rfl | exact Or.inr rfl) (pe_op op_add (pe_op op_add (pv 3) pe_int) (pe_call (ok__law_pick W) (hr.mono (by first | decide | omega)) rfl W.D__law_pick.g W.D__law_pick.F.kp W.D__law_pick.b .nil pass0 (pa_cons (pv 0) (pa_cons pe_int pa_nil)))))))))
  (pss_one (ps_ret (pv 2))))), ?_⟩
    simp only [tSeq, tIfS, tNext, tRet, tRetN, tAsg, tDrop, tPar, tCons, tNil, tCB, tVar, tC, tOp, rI, rI0, rU, tTest, tB, tTup, tLst, gName, tIf, tAnd, tOr, tNot, tAndV, tOrV, tNotV, tUn, tCall, tChain, tSl, tNoPart, tPart, tBM, tBM0, tDGet, sDPut, tAugS, ipI, tAug, rIxT, rIxL, rMulK, rLenK, rLstK, tTruK, gTup, gCons, gNil, rEq, rNe, scal, tNever, rMulK, rGcd, L2.start, List.map, List.length, List.replicate, List.cons_append, List.nil_append, List.append_nil, List.set, List.set_cons_zero, List.set_cons_succ, List.getElem?_cons_succ, List.getElem?_cons_zero, Option.some.injEq, List.cons.injEq, V.int.injEq, V.str.injEq, V.bl.injEq, V.ref.injEq, and_true, true_and, exists_eq_left, exists_eq_left', exists_eq_right, exists_eq_right', exists_eq, exists_and_left, exists_and_right, and_assoc, exists_false, false_and, and_false, or_false, false_or, reduceCtorEq, Nat.reduceAdd, Nat.reduceSub, List.append_assoc, eq_self, if_true, if_false, Bool.false_eq_true, decide_eq_true_eq, List.length_cons, List.length_nil]
    refine ⟨by decide, fun p hp => ?_⟩
    have ndp := hS.d_ne hp
    have ncp := hS.c_ne hp
    have nmp : ¬ Mdc d c p := fun z => z.elim (fun z => ndp z.symm) (fun z => ncp z.symm)
    refine ⟨d, c, 5, rfl, hS.new hp, ndc, by decide, fun r0 H1 h0 h1 k1 hS1 => ⟨r0, rfl, ?_⟩⟩
    have hp1 : H1 p = some (.lst []) := k1 p _ upd_same nmp
    refine ⟨_, rfl, _, rfl, by omega, by omega, ?_⟩
    rw [Int.toNat_natCast]
    refine for_range (n := many) (lo := 0) (DrawI K d c p many H) ?_ ?_ ?_
    · refine ⟨[], [], r0 - 2, none, none, rfl, ((Kp.new hp).trans k1), hS1, hp1, .nil, rfl, ⟨⟨fun x h => by simp at h, fun x h => by simp at h, List.Pairwise.nil⟩, fun x h => by simp at h⟩, fun x h => by simp at h, by omega, by omega⟩
    · rintro i σ H2 hi ⟨l, us, here, v4, v5, rfl, k2, hS2, hp2, hus, hl, ⟨hok, hthree⟩, hbelow, hh0, hh1⟩
      simp only [tSeq, tIfS, tNext, tRet, tRetN, tAsg, tDrop, tPar, tCons, tNil, tCB, tVar, tC, tOp, rI, rI0, rU, tTest, tB, tTup, tLst, gName, tIf, tAnd, tOr, tNot, tAndV, tOrV, tNotV, tUn, tCall, tChain, tSl, tNoPart, tPart, tBM, tBM0, tDGet, sDPut, tAugS, ipI, tAug, rIxT, rIxL, rMulK, rLenK, rLstK, tTruK, gTup, gCons, gNil, rEq, rNe, scal, tNever, rMulK, rGcd, L2.start, List.map, List.length, List.replicate, List.cons_append, List.nil_append, List.append_nil, List.set, List.set_cons_zero, List.set_cons_succ, List.getElem?_cons_succ, List.getElem?_cons_zero, Option.some.injEq, List.cons.injEq, V.int.injEq, V.str.injEq, V.bl.injEq, V.ref.injEq, and_true, true_and, exists_eq_left, exists_eq_left', exists_eq_right, exists_eq_right', exists_eq, exists_and_left, exists_and_right, and_assoc, exists_false, false_and, and_false, or_false, false_or, reduceCtorEq, Nat.reduceAdd, Nat.reduceSub, List.append_assoc, eq_self, if_true, if_false, Bool.false_eq_true, decide_eq_true_eq, List.length_cons, List.length_nil]
      refine ⟨d, c, 3, rfl, hS2, ndc, by decide, fun r1 H3 a0 a1 k3 hS3 => ⟨r1, rfl, ?_⟩⟩
      have hp3 := k3 p _ hp2 nmp
      have hus3 := dps_tk (hS2.tk k3) _ _ (ptDs_tup l) hus
      refine ⟨Or.inl ⟨rfl, _, Or.inl (Or.inl hp3)⟩, mulOk_r (by omega) (by omega), ?_⟩
      refine ⟨d, c, 1 + r1, rfl, hS3, ndc, abs_mono (n := 8000) (m := 10) (by omega) (by omega), fun r2 H4 b0 b1 k4 hS4 => ⟨r2, rfl, ?_⟩⟩
      have hp4 := k4 p _ hp3 nmp
      have hus4 := dps_tk (hS3.tk k4) _ _ (ptDs_tup l) hus3
      refine ⟨_, _, rfl, by omega, abs_mono (n := 8000) (m := 10) (by omega) (by omega), fun v H5 k5 dv => ?_⟩
      have hp5 := k5 p _ hp4 (fun z => z)
      have hus5 := dps_tk (Tk.of0 k5) _ _ (ptDs_tup l) hus4
      have hS5 := hS4.keep k5
      have q0 : 0 < 1 + r1 := by omega
      have r2l : r2 < 1 + r1 := by omega
      have nok := norm_ok (p := here * (1 + r1) + r2) q0
      have nb : (normP (here * (1 + r1) + r2) (1 + r1)).1 < (here + 1) * (normP (here * (1 + r1) + r2) (1 + r1)).2 := by
        have z := (lt_norm_l (p := here * (1 + r1) + r2) q0 (here + 1, 1)).mpr (by
          show (here * (1 + r1) + r2) * 1 < (here + 1) * (1 + r1)
          rw [Int.mul_one, Int.add_mul, Int.one_mul]; omega)
        unfold ltP at z
        simpa using z
      have nl : here * (normP (here * (1 + r1) + r2) (1 + r1)).2 ≤ (normP (here * (1 + r1) + r2) (1 + r1)).1 := by
        have z : ¬ ltP (normP (here * (1 + r1) + r2) (1 + r1)) (here, 1) := fun y => by
          have y' := (lt_norm_l (p := here * (1 + r1) + r2) q0 (here, 1)).mp y
          have y'' : (here * (1 + r1) + r2) * 1 < here * (1 + r1) := y'
          omega
        unfold ltP at z
        have z' : ¬ (normP (here * (1 + r1) + r2) (1 + r1)).1 * 1 < here * (normP (here * (1 + r1) + r2) (1 + r1)).2 := z
        omega
      have hq3 : 1 + r1 ≤ 3 := by omega
      have hprod : (here * (1 + r1) + r2).natAbs < 2 ^ 100 := by
        have b1 : here.natAbs < 2 ^ 20 := by omega
        have b2 : (1 + r1).natAbs < 2 ^ 20 := by omega
        have b3 := abs_mul_lt b1 b2
        have b4 : r2.natAbs < 2 ^ 40 := by omega
        exact abs_mono (abs_add_lt b3 b4) (by omega)
      have nsz := norm_sz (p := here * (1 + r1) + r2) (b := 100) q0 hprod (by omega)
      simp only [rAppend]
      refine ⟨p, us, v, rfl, rfl, hp5, by rw [dps_len hus5, List.length_map, sizeLine_eq]; omega, ?_⟩
      refine ⟨d, c, 2, rfl, hS5.other ndp ncp, ndc, by decide, fun r3 H6 c0 c1 k6 hS6 => ⟨r3, rfl, ?_⟩⟩
      have hp6 : H6 p = some (.lst (us ++ [v])) := k6 p _ upd_same nmp
      have tk6 : Tk H5 H6 := (Tk.lst hp5).trans ((hS5.other ndp ncp).tk k6)
      refine ⟨l ++ [normP (here * (1 + r1) + r2) (1 + r1)], us ++ [v], here + 1 + r3, _, _, rfl, ?_, hS6, hp6, ?_, by simp [hl], ?_, ?_, by omega, by omega⟩
      · exact (((((k2.trans k3).trans k4).trans k5.of0).at hp)).trans k6
      · rw [List.map_append]
        exact dps_app (dps_tk tk6 _ _ (ptDs_tup l) hus5) (dps_one (dp_tk tk6 _ _ rfl dv))
      · refine ⟨⟨fun x hx => ?_, fun x hx => ?_, ?_⟩, fun x hx => ?_⟩
        · rcases List.mem_append.mp hx with h | h
          · exact hok.ok x h
          · rw [List.mem_singleton.mp h]; exact nok
        · rcases List.mem_append.mp hx with h | h
          · exact hok.sz x h
          · rw [List.mem_singleton.mp h]; exact nsz
        · refine List.pairwise_append.mpr ⟨hok.asc, List.pairwise_singleton _ _, fun x hx y hy => ?_⟩
          rw [List.mem_singleton.mp hy]
          unfold ltP
          have e1 := hbelow x hx
          have px := (hok.ok x hx).pos
          have py := nok.pos
          generalize (normP (here * (1 + r1) + r2) (1 + r1)) = y at *
          have s1 : x.1 * y.2 < here * x.2 * y.2 := (mul_lt_iff py).mpr e1
          have s2 : here * y.2 * x.2 ≤ y.1 * x.2 := Int.mul_le_mul_of_nonneg_right nl (by omega)
          have s3 : here * x.2 * y.2 = here * y.2 * x.2 := Int.mul_right_comm ..
          omega
        · rcases List.mem_append.mp hx with h | h
          · exact hthree x h
          · rw [List.mem_singleton.mp h]
            have le : (normP (here * (1 + r1) + r2) (1 + r1)).2 ≤ 1 + r1 := Int.ediv_le_self _ (by omega)
            omega
      · intro x hx
        rcases List.mem_append.mp hx with h | h
        · have e1 := hbelow x h
          have px := (hok.ok x h).pos
          have e2 : here * x.2 ≤ (here + 1 + r3) * x.2 := Int.mul_le_mul_of_nonneg_right (by omega) (by omega)
          omega
        · rw [List.mem_singleton.mp h]
          have py := nok.pos
          generalize (normP (here * (1 + r1) + r2) (1 + r1)) = y at *
          have e2 : (here + 1) * y.2 ≤ (here + 1 + r3) * y.2 := Int.mul_le_mul_of_nonneg_right (by omega) (by omega)
          omega
    · rintro σ H2 ⟨l, us, here, v4, v5, rfl, k2, hS2, hp2, hus, hl, ⟨hok, hthree⟩, hbelow, hh0, hh1⟩
      exact ⟨_, rfl, k p H2 us l hp k2 hS2 hp2 hus hok hthree hl⟩
/-! ### what a draw keeps -/
theorem tabs_src {T : List (Addr × Str)} {H H' : Hp} {d c : Addr} (t : Tabs T H) (S : SrcAt H d c) (k : Kp (Mdc d c) H H') : Tabs T H' := fun y hy => by
  obtain ⟨ps, e1, e2, e3⟩ := t y hy
  obtain ⟨cs, l, m, n, d1, d2, _⟩ := S.ex
  refine ⟨ps, k _ _ e1 fun z => ?_, e2, fun pos cv z => ?_⟩
  · rcases z with z | z
    · rw [z, d1] at e1; cases e1
    · rw [z, d2] at e1; cases e1
  · obtain ⟨c', e4, e5⟩ := e3 pos cv z
    refine ⟨c', e4, k _ _ e5 fun z => ?_⟩
    rcases z with z | z
    · rw [z, d1] at e5; cases e5
    · rw [z, d2] at e5; cases e5
theorem SrcAt.kt {H H' : Hp} {d c : Addr} (h : SrcAt H d c) (k : Kt M0 H H') : SrcAt H' d c := by
  obtain ⟨cs, l, m, t, e1, e2, r⟩ := h.ex
  exact ⟨cs, l, m, t, k.dK e1 (fun z => z), k.lst e2 (fun z => z), r⟩
theorem SrcAt.tkt {H H' : Hp} {d c : Addr} (h : SrcAt H d c) (k : Kt (Mdc d c) H H') : Tk H H' := k.tk fun b o m e => by
  obtain ⟨cs, l, m', t, e1, e2, r⟩ := h.ex
  rcases m with rfl | rfl
  · rw [e1] at e; cases e; rfl
  · rw [e2] at e; cases e; rfl
theorem Kt.up {M : Addr → Prop} {H H' : Hp} (k : Kt M0 H H') : Kt M H H' := k.mono fun b z => z.elim
structure Drw (T : List (Addr × Str)) (d c : Addr) (H : Hp) : Prop where
  s : SrcAt H d c
  t : Tabs T H
theorem Drw.kt {T : List (Addr × Str)} {d c : Addr} {H H' : Hp} (h : Drw T d c H) (k : Kt M0 H H') (t : Tabs T H') : Drw T d c H' := ⟨h.s.kt k, t⟩
theorem Drw.kp {T : List (Addr × Str)} {d c : Addr} {H H' : Hp} (h : Drw T d c H) (k : Kp M0 H H') : Drw T d c H' := ⟨h.s.keep k, tabs_kp h.t k⟩
theorem Drw.new {T : List (Addr × Str)} {d c p : Addr} {o : HO} {H : Hp} (h : Drw T d c H) (n : H p = none) : Drw T d c (upd H p o) := ⟨h.s.new n, tabs_new h.t n⟩
theorem Drw.pick {T : List (Addr × Str)} {d c : Addr} {H H' : Hp} (h : Drw T d c H) (k : Kp (Mdc d c) H H') (s : SrcAt H' d c) : Drw T d c H' := ⟨s, tabs_src h.t h.s k⟩
def VN (n b : Nat) (x : Vl) : Prop := VOk n b x ∧ Nf x
theorem map_of {n b w : Nat} : ∀ {ds : List PyData}, (∀ (i : Nat) (e : PyData), ds[i]? = some e → ∃ x, e = vlD x ∧ VN n b x ∧ vw x ≤ w) → ∃ xs : List Vl, ds = xs.map vlD ∧ (∀ x ∈ xs, VN n b x) ∧ ∀ x ∈ xs, vw x ≤ w
  | [], _ => ⟨[], rfl, fun x h => by simp at h, fun x h => by simp at h⟩
  | e :: ds, h => by
    obtain ⟨xs, rfl, h1, h2⟩ := map_of (ds := ds) fun i e he => h (i + 1) e (by simpa using he)
    obtain ⟨x, rfl, h3, h4⟩ := h 0 e (by simp)
    exact ⟨x :: xs, rfl, fun y hy => (List.mem_cons.mp hy).elim (fun e => e ▸ h3) (h1 y), fun y hy => (List.mem_cons.mp hy).elim (fun e => e ▸ h4) (h2 y)⟩
theorem vws_mul {w : Nat} : ∀ {xs : List Vl}, (∀ x ∈ xs, vw x ≤ w) → vws xs ≤ xs.length * w
  | [], _ => by simp [vws]
  | x :: xs, h => by
    have := vws_mul (xs := xs) fun y hy => h y (by simp [hy])
    have := h x (by simp)
    rw [vws, List.length_cons, Nat.add_mul, Nat.one_mul]; omega
/-! ### drawn values and sets -/
def sp_value (K : PySem.W.Frag) (T : List (Addr × Str)) (n : Nat) : Sp := fun vs H Q _ => ∃ (d c pl : Addr) (pw : List V) (pool : List Pt), vs = [.ref d, .ref pl, .int (n : Nat)] ∧ Drw T d c H ∧ d ≠ c ∧ pl ≠ d ∧ pl ≠ c ∧ H pl = some (.lst pw) ∧ DpAll K H pw (pool.map ptD) ∧ PtsOk 100 pool ∧ 0 < pool.length ∧ pool.length ≤ 100 ∧ n ≤ 3 ∧
  ∀ (y : V) (H' : Hp) (x : Vl), Kt (Mdc d c) H H' → Drw T d c H' → Dp K H' y (vlD x) → VN n 100 x → vw x ≤ 4 ^ (n + 1) → Q y H'
/-- of depth n + 1 -/
def sp_set (K : PySem.W.Frag) (T : List (Addr × Str)) (n : Nat) : Sp := fun vs H Q _ => ∃ (d c pl : Addr) (pw : List V) (pool : List Pt) (most : Nat), vs = [.ref d, .ref pl, .int (n + 1 : Nat), .int (most : Nat)] ∧ Drw T d c H ∧ d ≠ c ∧ pl ≠ d ∧ pl ≠ c ∧ H pl = some (.lst pw) ∧ DpAll K H pw (pool.map ptD) ∧ PtsOk 100 pool ∧ 0 < pool.length ∧ pool.length ≤ 100 ∧ n ≤ 2 ∧ most ≤ 3 ∧
  ∀ (y : V) (H' : Hp) (ps : List Pt) (ms : List Vl), Kt (Mdc d c) H H' → Drw T d c H' → Dp K H' y (vlD (.set ps ms)) → VN (n + 1) 100 (.set ps ms) → vw (.set ps ms) ≤ 4 ^ (n + 2) → Q y H'
theorem ok__law_draw_value (W : Ds K mg) (B : Tbs W base) (n : Nat) (ihv : FnG P w K mg base (2 * n + 6) W.f__law_draw_value W.fd__law_draw_value P__law_draw_value (prevS (sp_value K B.T) n)) (ihs : FnG P w K mg base (2 * n + 7) W.f__law_draw_set W.fd__law_draw_set P__law_draw_set (prevS (sp_set K B.T) n)) : FnG P w K mg base (2 * n + 8) W.f__law_draw_value W.fd__law_draw_value P__law_draw_value (sp_value K B.T n) := by
  refine fnG_ok W.D__law_draw_value.F sc__law_draw_value (fun vs H Q E h => ?len) (fun cdv A outer s H vs Q E nr hr h => ?body)
  case len =>
    obtain ⟨d, c, pl, pw, pool, rfl, _⟩ := h
    rfl
  case body =>
    obtain ⟨d, c, pl, pw, pool, rfl, dr, ndc, npd, npc, sp, dp, op, hl0, hl, hn, k⟩ := h
    have nd := sc__law_draw_value.nd
    have hu := hu_of hr
    have hu64 := hr.units
    have hu65 := hu65_of hr
    refine ⟨_, (pss_cons (ps_set (i := 3) nd rfl (by first | exact Or.inl rfl | exact Or.inr rfl) (pe_call (ok__law_pick W) (hr.mono (by first | decide | omega)) rfl W.D__law_pick.g W.D__law_pick.F.kp W.D__law_pick.b .nil pass0 (pa_cons (pv 0) (pa_cons (pe_ifExp (pt_cmpR op_gt (pv 2) pe_int (nomark _)) pe_int pe_int) pa_nil))))
  (pss_cons (ps_if (pt_cmpR op_eq (pv 3) pe_int (nomark _))
     (pss_one (ps_ret (pe_ix (k_ixL K) (pe_lst (pa_cons pe_str (pa_cons pe_str (pa_cons pe_str pa_nil)))) (pe_call (ok__law_pick W) (hr.mono (by first | decide | omega)) rfl W.D__law_pick.g W.D__law_pick.F.kp W.D__law_pick.b .nil pass0 (pa_cons (pv 0) (pa_cons pe_int pa_nil))) (fun _ _ => rfl))))
     pss_nil)
  (pss_cons (ps_if (pt_cmpR op_lt (pv 3) pe_int (nomark _))
     (pss_one (ps_ret (pe_ix (k_ixL K) (pv 1) (pe_call (ok__law_pick W) (hr.mono (by first | decide | omega)) rfl W.D__law_pick.g W.D__law_pick.F.kp W.D__law_pick.b .nil pass0 (pa_cons (pv 0) (pa_cons (pe_callB (c_len K) (by rfl) W.T.b_len (by decide +kernel) (pa_cons (pv 1) pa_nil)) pa_nil))) (fun _ _ => rfl))))
     pss_nil)
  (pss_cons (ps_if (pt_cmpR op_lt (pv 3) pe_int (nomark _))
     (pss_one (ps_ret (pe_op (k_catT K) (pe_tup (pa_cons pe_str pa_nil)) (pe_callTy (c_tuple K) (by rfl) W.T.b_tuple (by decide +kernel) (pa_cons (pe_lc (own := [("lap", 4)]) rfl nd (pi_range1 rfl W.T.b_range (pa_cons (pe_op op_add pe_int (pe_call (ok__law_pick W) (hr.mono (by first | decide | omega)) rfl W.D__law_pick.g W.D__law_pick.F.kp W.D__law_pick.b .nil pass0 (pa_cons (pv 0) (pa_cons pe_int pa_nil)))) pa_nil)) (blkOk_by (N := N__law_draw_value) (sc := defScope s__law_draw_value) (by decide +kernel)) (fun _ _ _ _ _ => (pg_name (i := 4) nd rfl (by first | exact Or.inl rfl | exact Or.inr rfl))) (fun _ _ _ _ _ => pts_nil) (fun _ _ _ _ _ => (peG_call ihv nr (hr.mono (by first | decide | omega)) rfl W.D__law_draw_value.g W.D__law_draw_value.F.kp W.D__law_draw_value.b (pa_cons (pv 0) (pa_cons (pv 1) (pa_cons (pe_op op_sub (pv 2) pe_int) pa_nil)))))) pa_nil)))))
     pss_nil)
  (pss_one (ps_ret (peG_call ihs nr (hr.mono (by first | decide | omega)) rfl W.D__law_draw_set.g W.D__law_draw_set.F.kp W.D__law_draw_set.b (pa_cons (pv 0) (pa_cons (pv 1) (pa_cons (pv 2) (pa_cons pe_int pa_nil))))))))))), ?_⟩
    simp only [tSeq, tIfS, tNext, tRet, tRetN, tAsg, tDrop, tPar, tCons, tNil, tCB, tVar, tC, tOp, rI, rI0, rU, tTest, tB, tTup, tLst, gName, tIf, tAnd, tOr, tNot, tAndV, tOrV, tNotV, tUn, tCall, tChain, tSl, tNoPart, tPart, tBM, tBM0, tDGet, sDPut, tAugS, ipI, tAug, rIxT, rIxL, rMulK, rLenK, rLstK, tTruK, gTup, gCons, gNil, rEq, rNe, scal, tNever, rMulK, rGcd, L2.start, List.map, List.length, List.replicate, List.cons_append, List.nil_append, List.append_nil, List.set, List.set_cons_zero, List.set_cons_succ, List.getElem?_cons_succ, List.getElem?_cons_zero, Option.some.injEq, List.cons.injEq, V.int.injEq, V.str.injEq, V.bl.injEq, V.ref.injEq, and_true, true_and, exists_eq_left, exists_eq_left', exists_eq_right, exists_eq_right', exists_eq, exists_and_left, exists_and_right, and_assoc, exists_false, false_and, and_false, or_false, false_or, reduceCtorEq, Nat.reduceAdd, Nat.reduceSub, List.append_assoc, eq_self, if_true, if_false, Bool.false_eq_true, decide_eq_true_eq, List.length_cons, List.length_nil]
    have p3 : 4 ≤ 4 ^ (n + 1) := by rw [Nat.pow_succ]; have : 0 < 4 ^ n := Nat.pow_pos (by decide); omega
    split
    all_goals
      rename_i h0
      refine ⟨d, c, _, rfl, dr.s, ndc, by decide, fun r H1 r0 r1 k1 S1 => ⟨rfl, ?_⟩⟩
      have dr1 := dr.pick k1 S1
      have nmp : ¬ Mdc d c pl := fun z => z.elim npd npc
      have sp1 := k1 _ _ sp nmp
      have dp1 := pts_tk dp (dr.s.tk k1)
      have q1 := Kt.of k1
      by_cases z0 : r = 0
      · rw [if_pos (by rw [z0])]
        refine ⟨by decide, fun p hp => ?_⟩
        have nm : ¬ Mdc d c p := fun z => z.elim (fun z => S1.d_ne hp z.symm) (fun z => S1.c_ne hp z.symm)
        refine ⟨d, c, 3, rfl, S1.new hp, ndc, by decide, fun r2 H2 a0 a1 k2 S2 => ⟨_, r2, rfl, sqL_mk (k2 _ _ upd_same nm), ?_⟩⟩
        have dr2 := (dr1.new hp).pick k2 S2
        have q2 := (q1.trans (Kt.new hp)).trans (Kt.of k2)
        have : r2 = 0 ∨ r2 = 1 ∨ r2 = 2 := by omega
        rcases this with rfl | rfl | rfl
        · exact ⟨_, atI_nat (j := 0) rfl, k _ H2 (.word "a") q2 dr2 (by rw [vlD]; exact .str _) ⟨.word (by decide +kernel) ⟨by decide +kernel, by decide +kernel⟩, .word⟩ (by rw [vw]; omega)⟩
        · exact ⟨_, atI_nat (j := 1) rfl, k _ H2 (.word "b") q2 dr2 (by rw [vlD]; exact .str _) ⟨.word (by decide +kernel) ⟨by decide +kernel, by decide +kernel⟩, .word⟩ (by rw [vw]; omega)⟩
        · exact ⟨_, atI_nat (j := 2) rfl, k _ H2 (.word "row") q2 dr2 (by rw [vlD]; exact .str _) ⟨.word (by decide +kernel) ⟨by decide +kernel, by decide +kernel⟩, .word⟩ (by rw [vw]; omega)⟩
      · rw [if_neg (fun y => z0 (by injection y))]
        refine ⟨r, rfl, ?_⟩
        by_cases z4 : r < 4
        · rw [if_pos z4]
          have pl1 : pw.length = pool.length := by rw [dps_len dp, List.length_map]
          refine ⟨pw, Or.inl (sqL_mk sp1), d, c, _, rfl, S1, ndc, abs_mono (n := 8000) (m := 10) (by omega) (by omega), fun r2 H2 a0 a1 k2 S2 => ⟨pw, r2, rfl, sqL_mk (k2 _ _ sp1 nmp), ?_⟩⟩
          obtain ⟨i, rfl⟩ : ∃ i : Nat, r2 = i := ⟨r2.toNat, by omega⟩
          have hi : i < pool.length := by omega
          obtain ⟨v, e1, dv⟩ := pts_item (pts_tk dp1 (S1.tk k2)) hi
          have mi : atP pool i ∈ pool := List.mem_of_getElem? (atP_some hi)
          exact ⟨v, atI_nat (j := i) e1, k v H2 (.pt (atP pool i)) (q1.trans (Kt.of k2)) (dr1.pick k2 S2) (by rw [vlD]; exact dv) ⟨.pt (op.ok _ mi) (op.sz _ mi), .pt⟩ (by rw [vw]; omega)⟩
        · rw [if_neg z4]
          cases n with
          | zero => omega
          | succ m =>
            refine ⟨r, rfl, ?_⟩
            by_cases z6 : r < 6
            · rw [if_pos z6]
              refine ⟨by decide, fun p hp => ?_⟩
              have nm : ¬ Mdc d c p := fun z => z.elim (fun z => S1.d_ne hp z.symm) (fun z => S1.c_ne hp z.symm)
              refine tlcR ?_
              simp only [tSeq, tIfS, tNext, tRet, tRetN, tAsg, tDrop, tPar, tCons, tNil, tCB, tVar, tC, tOp, rI, rI0, rU, tTest, tB, tTup, tLst, gName, tIf, tAnd, tOr, tNot, tAndV, tOrV, tNotV, tUn, tCall, tChain, tSl, tNoPart, tPart, tBM, tBM0, tDGet, sDPut, tAugS, ipI, tAug, rIxT, rIxL, rMulK, rLenK, rLstK, tTruK, gTup, gCons, gNil, rEq, rNe, scal, tNever, rMulK, rGcd, L2.start, List.map, List.length, List.replicate, List.cons_append, List.nil_append, List.append_nil, List.set, List.set_cons_zero, List.set_cons_succ, List.getElem?_cons_succ, List.getElem?_cons_zero, Option.some.injEq, List.cons.injEq, V.int.injEq, V.str.injEq, V.bl.injEq, V.ref.injEq, and_true, true_and, exists_eq_left, exists_eq_left', exists_eq_right, exists_eq_right', exists_eq, exists_and_left, exists_and_right, and_assoc, exists_false, false_and, and_false, or_false, false_or, reduceCtorEq, Nat.reduceAdd, Nat.reduceSub, List.append_assoc, eq_self, if_true, if_false, Bool.false_eq_true, decide_eq_true_eq, List.length_cons, List.length_nil]
              refine ⟨d, c, 3, rfl, S1.new hp, ndc, by decide, fun r2 H2 a0 a1 k2 S2 => ⟨r2, rfl, ?_⟩⟩
              have dr2 := (dr1.new hp).pick k2 S2
              have hp2 := k2 _ _ upd_same nm
              have sp2 := k2 _ _ ((Kp.new (M := M0) (o := .tup [.str "row"]) hp) _ _ sp1 fun z => z) nmp
              have q2 := (q1.trans (Kt.new (o := .tup [.str "row"]) hp)).trans (Kt.of k2)
              have dp2 := pts_tk dp1 ((Tk.new (o := .tup [.str "row"]) hp).trans ((S1.new hp).tk k2))
              refine lcRg (K := K) (n := (1 + r2).toNat) rfl (by omega) (by omega) (Mdc d c) (Drw B.T d c) (fun _ e => ∃ x, e = vlD x ∧ VN m 100 x ∧ vw x ≤ 4 ^ (m + 1)) (fun D hD => ⟨dr2.new hD, fun z => z.elim (fun z => S2.d_ne hD z.symm) (fun z => S2.c_ne hD z.symm)⟩) (fun D H3 vs ws i3 e3 n3 => ⟨i3.s.other (fun z => n3 (Or.inl z.symm)) (fun z => n3 (Or.inr z.symm)), tabs_lst i3.t e3⟩) (fun _ e he => by obtain ⟨x, rfl, _⟩ := he; exact vlD_tup x) (fun H3 b o i3 mb e3 => by
                obtain ⟨cs, l, m', t, e1, e2, _⟩ := i3.s.ex
                rcases mb with rfl | rfl
                · rw [e1] at e3; cases e3; rfl
                · rw [e2] at e3; cases e3; rfl) (fun i H3 hi k3 i3 Q' qk => ?_) fun D H3 vs ds hD k3 i3 hd3 da3 dl3 pd3 => ?_
              · have e1 : ((m + 1 : Nat) : Int) - 1 = ((m : Nat) : Int) := by omega
                simp only [tSeq, tIfS, tNext, tRet, tRetN, tAsg, tDrop, tPar, tCons, tNil, tCB, tVar, tC, tOp, rI, rI0, rU, tTest, tB, tTup, tLst, gName, tIf, tAnd, tOr, tNot, tAndV, tOrV, tNotV, tUn, tCall, tChain, tSl, tNoPart, tPart, tBM, tBM0, tDGet, sDPut, tAugS, ipI, tAug, rIxT, rIxL, rMulK, rLenK, rLstK, tTruK, gTup, gCons, gNil, rEq, rNe, scal, tNever, rMulK, rGcd, L2.start, List.map, List.length, List.replicate, List.cons_append, List.nil_append, List.append_nil, List.set, List.set_cons_zero, List.set_cons_succ, List.getElem?_cons_succ, List.getElem?_cons_zero, Option.some.injEq, List.cons.injEq, V.int.injEq, V.str.injEq, V.bl.injEq, V.ref.injEq, and_true, true_and, exists_eq_left, exists_eq_left', exists_eq_right, exists_eq_right', exists_eq, exists_and_left, exists_and_right, and_assoc, exists_false, false_and, and_false, or_false, false_or, reduceCtorEq, Nat.reduceAdd, Nat.reduceSub, List.append_assoc, eq_self, if_true, if_false, Bool.false_eq_true, decide_eq_true_eq, List.length_cons, List.length_nil, e1]
                exact ⟨d, c, pl, pw, pool, rfl, i3, ndc, npd, npc, k3.lst sp2 nmp, pts_tk dp2 (dr2.s.tkt k3), op, hl0, hl, by omega, fun y H4 x k4 dr4 d4 o4 w4 => qk y H4 (vlD x) k4 dr4 ⟨x, rfl, o4, w4⟩ d4⟩
              · obtain ⟨xs, rfl, ox, wx⟩ := map_of pd3
                have xl : xs.length ≤ 3 := by rw [List.length_map] at dl3; omega
                have wx3 : vws xs ≤ 3 * 4 ^ (m + 1) := Nat.le_trans (vws_mul wx) (Nat.mul_le_mul_right _ xl)
                have vl3 : vs.length = xs.length := by rw [dps_len da3, List.length_map]
                refine ⟨D, vs, rfl, Or.inl ⟨sqL_mk hd3, fun t3 ht3 => ?_⟩⟩
                have hp3 : upd H3 t3 (.tup vs) p = some (.tup [.str "row"]) := by
                  have e2 := k3 _ _ hp2 (fun _ z => by cases z) nm
                  rw [upd_ne (ne_of_none e2 ht3)]; exact e2
                have k0 := (q2.trans k3).trans (Kt.new (o := .tup vs) ht3)
                have d3 := dvs_tk da3 (Tk.new (o := .tup vs) ht3)
                have ov : VN (m + 1) 100 (.row xs) := ⟨.row (fun e => by rw [List.length_map, e] at dl3; simp at dl3; omega) fun v hv => (ox v hv).1, .row fun v hv => (ox v hv).2⟩
                have wv : vw (.row xs) ≤ 4 ^ (m + 1 + 1) := by rw [vw, Nat.pow_succ]; have : 1 ≤ 4 ^ (m + 1) := Nat.pow_pos (by decide); omega
                have dr3 := i3.new (o := .tup vs) ht3
                refine ⟨p, t3, [.str "row"], vs, rfl, rfl, sqT_mk hp3, sqT_mk upd_same, by rw [sizeLine_eq]; simp; omega, fun z => by simp at z, fun _ hv => ?_, fun _ _ t4 ht4 => ?_⟩
                · subst hv
                  exact k _ _ (.row xs) k0 dr3 (dv_mkrow (ws := []) (tpl hp3) d3) ov wv
                · exact k _ _ (.row xs) (k0.trans (Kt.new ht4)) (dr3.new ht4) (dv_mkrow (ws := vs) (tpl upd_same) (dvs_tk d3 (Tk.new ht4))) ov wv
            · rw [if_neg z6]
              exact ⟨d, c, pl, pw, pool, 2, rfl, dr1, ndc, npd, npc, sp1, dp1, op, hl0, hl, by omega, by omega, fun y H2 ps ms k2 dr2 d2 o2 w2 => k y H2 (.set ps ms) (q1.trans k2) dr2 d2 o2 w2⟩
end
end G
set_option Elab.async false
set_option linter.all false
set_option maxRecDepth 100000
set_option maxHeartbeats 4000000
set_option exponentiation.threshold 10000
namespace G
open PySem L2 LamX NdefX
section
variable {P : Program} {w : World} {K : PySem.W.Frag} {mg : Str → Option Value} {base : Heap}
theorem pts_of {pool : List Pt} : ∀ {ds : List PyData}, (∀ (i : Nat) (e : PyData), ds[i]? = some e → ∃ x ∈ pool, e = ptD x) → ∃ l : List Pt, ds = l.map ptD ∧ ∀ x ∈ l, x ∈ pool
  | [], _ => ⟨[], rfl, fun x h => by simp at h⟩
  | e :: ds, h => by
    obtain ⟨l, rfl, h1⟩ := pts_of (ds := ds) fun i e he => h (i + 1) e (by simpa using he)
    obtain ⟨x, h3, rfl⟩ := h 0 e (by simp)
    exact ⟨x :: l, rfl, fun y hy => (List.mem_cons.mp hy).elim (fun e => e ▸ h3) (h1 y)⟩
theorem drw_hm {T : List (Addr × Str)} {d c : Addr} (H3 : Hp) (b : Addr) (o : HO) (i3 : Drw T d c H3) (mb : Mdc d c b) (e3 : H3 b = some o) : immut o = false := by
  obtain ⟨cs, l, m', t, e1, e2, _⟩ := i3.s.ex
  rcases mb with rfl | rfl
  · rw [e1] at e3; cases e3; rfl
  · rw [e2] at e3; cases e3; rfl
theorem drw_hI {T : List (Addr × Str)} {d c : Addr} {H : Hp} (dr : Drw T d c H) (D : Addr) (hD : H D = none) : Drw T d c (upd H D (.lst [])) ∧ ¬ Mdc d c D := ⟨dr.new hD, fun z => z.elim (fun z => dr.s.d_ne hD z.symm) (fun z => dr.s.c_ne hD z.symm)⟩
theorem drw_hst {T : List (Addr × Str)} {d c : Addr} (D : Addr) (H3 : Hp) (vs ws : List V) (i3 : Drw T d c H3) (e3 : H3 D = some (.lst vs)) (n3 : ¬ Mdc d c D) : Drw T d c (upd H3 D (.lst ws)) := ⟨i3.s.other (fun z => n3 (Or.inl z.symm)) (fun z => n3 (Or.inr z.symm)), tabs_lst i3.t e3⟩
theorem ok__law_draw_set (W : Ds K mg) (B : Tbs W base) (n : Nat) (ihv : FnG P w K mg base (2 * n + 8) W.f__law_draw_value W.fd__law_draw_value P__law_draw_value (sp_value K B.T n)) : FnG P w K mg base (2 * n + 9) W.f__law_draw_set W.fd__law_draw_set P__law_draw_set (sp_set K B.T n) := by
  refine fnG_ok W.D__law_draw_set.F sc__law_draw_set (fun vs H Q E h => ?len) (fun cdv A outer s H vs Q E nr hr h => ?body)
  case len =>
    obtain ⟨d, c, pl, pw, pool, most, rfl, _⟩ := h
    rfl
  case body =>
    obtain ⟨d, c, pl, pw, pool, most, rfl, dr, ndc, npd, npc, sp, dp, op, hl0, hl, hn, hm, k⟩ := h
    have nd := sc__law_draw_set.nd
    have hu := hu_of hr
    have hu64 := hr.units
    have hu65 := hu65_of hr
    refine ⟨_, (pss_cons (ps_set (i := 5) nd rfl (by first | exact Or.inl rfl | exact Or.inr rfl) (pe_call (ok__law_ascending W) (hr.mono (by first | decide | omega)) rfl W.D__law_ascending.g W.D__law_ascending.F.kp W.D__law_ascending.b .nil pass0 (pa_cons (pe_lc (own := [("lap", 4)]) rfl nd (pi_range1 rfl W.T.b_range (pa_cons (pe_call (ok__law_pick W) (hr.mono (by first | decide | omega)) rfl W.D__law_pick.g W.D__law_pick.F.kp W.D__law_pick.b .nil pass0 (pa_cons (pv 0) (pa_cons pe_int pa_nil))) pa_nil)) (blkOk_by (N := N__law_draw_set) (sc := defScope s__law_draw_set) (by decide +kernel)) (fun _ _ _ _ _ => (pg_name (i := 4) nd rfl (by first | exact Or.inl rfl | exact Or.inr rfl))) (fun _ _ _ _ _ => pts_nil) (fun _ _ _ _ _ => (pe_ix (k_ixL K) (pv 1) (pe_call (ok__law_pick W) (hr.mono (by first | decide | omega)) rfl W.D__law_pick.g W.D__law_pick.F.kp W.D__law_pick.b .nil pass0 (pa_cons (pv 0) (pa_cons (pe_callB (c_len K) (by rfl) W.T.b_len (by decide +kernel) (pa_cons (pv 1) pa_nil)) pa_nil))) (fun _ _ => rfl)))) pa_nil)))
  (pss_one (ps_ret (peG_call (ok__law_made W B n) nr (hr.mono (by first | decide | omega)) rfl W.D__law_made.g W.D__law_made.F.kp W.D__law_made.b (pa_cons (pv 5) (pa_cons (pe_lc (own := [("lap", 4)]) rfl nd (pi_range1 rfl W.T.b_range (pa_cons (pe_call (ok__law_pick W) (hr.mono (by first | decide | omega)) rfl W.D__law_pick.g W.D__law_pick.F.kp W.D__law_pick.b .nil pass0 (pa_cons (pv 0) (pa_cons (pe_op op_add (pv 3) pe_int) pa_nil))) pa_nil)) (blkOk_by (N := N__law_draw_set) (sc := defScope s__law_draw_set) (by decide +kernel)) (fun _ _ _ _ _ => (pg_name (i := 4) nd rfl (by first | exact Or.inl rfl | exact Or.inr rfl))) (fun _ _ _ _ _ => pts_nil) (fun _ _ _ _ _ => (peG_call ihv nr (hr.mono (by first | decide | omega)) rfl W.D__law_draw_value.g W.D__law_draw_value.F.kp W.D__law_draw_value.b (pa_cons (pv 0) (pa_cons (pv 1) (pa_cons (pe_op op_sub (pv 2) pe_int) pa_nil)))))) pa_nil)))))), ?_⟩
    simp only [tSeq, tIfS, tNext, tRet, tRetN, tAsg, tDrop, tPar, tCons, tNil, tCB, tVar, tC, tOp, rI, rI0, rU, tTest, tB, tTup, tLst, gName, tIf, tAnd, tOr, tNot, tAndV, tOrV, tNotV, tUn, tCall, tChain, tSl, tNoPart, tPart, tBM, tBM0, tDGet, sDPut, tAugS, ipI, tAug, rIxT, rIxL, rMulK, rLenK, rLstK, tTruK, gTup, gCons, gNil, rEq, rNe, scal, tNever, rMulK, rGcd, L2.start, List.map, List.length, List.replicate, List.cons_append, List.nil_append, List.append_nil, List.set, List.set_cons_zero, List.set_cons_succ, List.getElem?_cons_succ, List.getElem?_cons_zero, Option.some.injEq, List.cons.injEq, V.int.injEq, V.str.injEq, V.bl.injEq, V.ref.injEq, and_true, true_and, exists_eq_left, exists_eq_left', exists_eq_right, exists_eq_right', exists_eq, exists_and_left, exists_and_right, and_assoc, exists_false, false_and, and_false, or_false, false_or, reduceCtorEq, Nat.reduceAdd, Nat.reduceSub, List.append_assoc, eq_self, if_true, if_false, Bool.false_eq_true, decide_eq_true_eq, List.length_cons, List.length_nil]
    have nmp : ¬ Mdc d c pl := fun z => z.elim npd npc
    have pwl : pw.length = pool.length := by rw [dps_len dp, List.length_map]
    refine tlcR ?_
    simp only [tSeq, tIfS, tNext, tRet, tRetN, tAsg, tDrop, tPar, tCons, tNil, tCB, tVar, tC, tOp, rI, rI0, rU, tTest, tB, tTup, tLst, gName, tIf, tAnd, tOr, tNot, tAndV, tOrV, tNotV, tUn, tCall, tChain, tSl, tNoPart, tPart, tBM, tBM0, tDGet, sDPut, tAugS, ipI, tAug, rIxT, rIxL, rMulK, rLenK, rLstK, tTruK, gTup, gCons, gNil, rEq, rNe, scal, tNever, rMulK, rGcd, L2.start, List.map, List.length, List.replicate, List.cons_append, List.nil_append, List.append_nil, List.set, List.set_cons_zero, List.set_cons_succ, List.getElem?_cons_succ, List.getElem?_cons_zero, Option.some.injEq, List.cons.injEq, V.int.injEq, V.str.injEq, V.bl.injEq, V.ref.injEq, and_true, true_and, exists_eq_left, exists_eq_left', exists_eq_right, exists_eq_right', exists_eq, exists_and_left, exists_and_right, and_assoc, exists_false, false_and, and_false, or_false, false_or, reduceCtorEq, Nat.reduceAdd, Nat.reduceSub, List.append_assoc, eq_self, if_true, if_false, Bool.false_eq_true, decide_eq_true_eq, List.length_cons, List.length_nil]
    refine ⟨d, c, 3, rfl, dr.s, ndc, by decide, fun r H1 r0 r1 k1 S1 => ?_⟩
    have dr1 := dr.pick k1 S1
    have sp1 := k1 _ _ sp nmp
    have dp1 := pts_tk dp (dr.s.tk k1)
    have q1 := Kt.of k1
    refine lcRg (K := K) (n := r.toNat) rfl (by omega) (by omega) (Mdc d c) (Drw B.T d c) (fun _ e => ∃ x ∈ pool, e = ptD x) (drw_hI dr1) drw_hst (fun _ e he => by obtain ⟨x, _, rfl⟩ := he; exact ptD_tup x) drw_hm (fun i H3 hi k3 i3 Q' qk => ?_) fun D H3 vs ds hD k3 i3 hd3 da3 dl3 pd3 => ?_
    · simp only [tSeq, tIfS, tNext, tRet, tRetN, tAsg, tDrop, tPar, tCons, tNil, tCB, tVar, tC, tOp, rI, rI0, rU, tTest, tB, tTup, tLst, gName, tIf, tAnd, tOr, tNot, tAndV, tOrV, tNotV, tUn, tCall, tChain, tSl, tNoPart, tPart, tBM, tBM0, tDGet, sDPut, tAugS, ipI, tAug, rIxT, rIxL, rMulK, rLenK, rLstK, tTruK, gTup, gCons, gNil, rEq, rNe, scal, tNever, rMulK, rGcd, L2.start, List.map, List.length, List.replicate, List.cons_append, List.nil_append, List.append_nil, List.set, List.set_cons_zero, List.set_cons_succ, List.getElem?_cons_succ, List.getElem?_cons_zero, Option.some.injEq, List.cons.injEq, V.int.injEq, V.str.injEq, V.bl.injEq, V.ref.injEq, and_true, true_and, exists_eq_left, exists_eq_left', exists_eq_right, exists_eq_right', exists_eq, exists_and_left, exists_and_right, and_assoc, exists_false, false_and, and_false, or_false, false_or, reduceCtorEq, Nat.reduceAdd, Nat.reduceSub, List.append_assoc, eq_self, if_true, if_false, Bool.false_eq_true, decide_eq_true_eq, List.length_cons, List.length_nil]
      have sp3 := k3.lst sp1 nmp
      refine ⟨pw, Or.inl (sqL_mk sp3), d, c, _, rfl, i3.s, ndc, abs_mono (n := 8000) (m := 10) (by omega) (by omega), fun r2 H2 a0 a1 k2 S2 => ⟨pw, r2, rfl, sqL_mk (k2 _ _ sp3 nmp), ?_⟩⟩
      obtain ⟨i, rfl⟩ : ∃ i : Nat, r2 = i := ⟨r2.toNat, by omega⟩
      have hi : i < pool.length := by omega
      obtain ⟨v, e1, dv⟩ := pts_item (pts_tk dp1 ((dr1.s.tkt k3).trans (i3.s.tk k2))) hi
      have mi : atP pool i ∈ pool := List.mem_of_getElem? (atP_some hi)
      exact ⟨v, atI_nat (j := i) e1, qk v H2 (ptD (atP pool i)) (Kt.of k2) (i3.pick k2 S2) ⟨_, mi, rfl⟩ dv⟩
    · obtain ⟨l, rfl, ml⟩ := pts_of pd3
      have ll : l.length ≤ 2 := by rw [List.length_map] at dl3; omega
      have lo : ∀ x ∈ l, PtOk x ∧ Sz 100 x := fun x hx => ⟨op.ok x (ml x hx), op.sz x (ml x hx)⟩
      refine ⟨D, vs, l, rfl, sqL_mk hd3, da3, fun x hx => ⟨(lo x hx).1, (lo x hx).2.mono (by omega)⟩, by omega, fun D2 H4 us hD2 k4 hd4 da4 => ?_⟩
      have dr4 := i3.kp k4
      have q4 := (q1.trans k3).trans (Kt.of0 k4)
      have tk14 : Tk H1 H4 := (dr1.s.tkt k3).trans (Tk.of0 k4)
      have sp4 := k4 _ _ (k3.lst sp1 nmp) fun z => z
      have dp4 := pts_tk dp1 tk14
      have ok := asc_ok lo
      have al := asc_le lo
      have nm2 : ¬ Mdc d c D2 := fun z => z.elim (fun z => i3.s.d_ne hD2 z.symm) (fun z => i3.s.c_ne hD2 z.symm)
      refine tlcR ?_
      simp only [tSeq, tIfS, tNext, tRet, tRetN, tAsg, tDrop, tPar, tCons, tNil, tCB, tVar, tC, tOp, rI, rI0, rU, tTest, tB, tTup, tLst, gName, tIf, tAnd, tOr, tNot, tAndV, tOrV, tNotV, tUn, tCall, tChain, tSl, tNoPart, tPart, tBM, tBM0, tDGet, sDPut, tAugS, ipI, tAug, rIxT, rIxL, rMulK, rLenK, rLstK, tTruK, gTup, gCons, gNil, rEq, rNe, scal, tNever, rMulK, rGcd, L2.start, List.map, List.length, List.replicate, List.cons_append, List.nil_append, List.append_nil, List.set, List.set_cons_zero, List.set_cons_succ, List.getElem?_cons_succ, List.getElem?_cons_zero, Option.some.injEq, List.cons.injEq, V.int.injEq, V.str.injEq, V.bl.injEq, V.ref.injEq, and_true, true_and, exists_eq_left, exists_eq_left', exists_eq_right, exists_eq_right', exists_eq, exists_and_left, exists_and_right, and_assoc, exists_false, false_and, and_false, or_false, false_or, reduceCtorEq, Nat.reduceAdd, Nat.reduceSub, List.append_assoc, eq_self, if_true, if_false, Bool.false_eq_true, decide_eq_true_eq, List.length_cons, List.length_nil]
      refine ⟨d, c, _, rfl, dr4.s, ndc, abs_mono (n := 8000) (m := 10) (by omega) (by omega), fun r2 H5 a0 a1 k5 S5 => ?_⟩
      have dr5 := dr4.pick k5 S5
      have sp5 := k5 _ _ sp4 nmp
      have dp5 := pts_tk dp4 (dr4.s.tk k5)
      have hd5 := k5 _ _ hd4 nm2
      have da5 := pts_tk da4 (dr4.s.tk k5)
      refine lcRg (K := K) (n := r2.toNat) rfl (by omega) (by omega) (Mdc d c) (Drw B.T d c) (fun _ e => ∃ x, e = vlD x ∧ VN n 100 x ∧ vw x ≤ 4 ^ (n + 1)) (drw_hI dr5) drw_hst (fun _ e he => by obtain ⟨x, rfl, _⟩ := he; exact vlD_tup x) drw_hm (fun i H3 hi k3 i3 Q' qk => ?_) fun D5 H6 vs6 ds6 hD6 k6 i6 hd6 da6 dl6 pd6 => ?_
      · have e1 : ((n + 1 : Nat) : Int) - 1 = ((n : Nat) : Int) := by omega
        simp only [tSeq, tIfS, tNext, tRet, tRetN, tAsg, tDrop, tPar, tCons, tNil, tCB, tVar, tC, tOp, rI, rI0, rU, tTest, tB, tTup, tLst, gName, tIf, tAnd, tOr, tNot, tAndV, tOrV, tNotV, tUn, tCall, tChain, tSl, tNoPart, tPart, tBM, tBM0, tDGet, sDPut, tAugS, ipI, tAug, rIxT, rIxL, rMulK, rLenK, rLstK, tTruK, gTup, gCons, gNil, rEq, rNe, scal, tNever, rMulK, rGcd, L2.start, List.map, List.length, List.replicate, List.cons_append, List.nil_append, List.append_nil, List.set, List.set_cons_zero, List.set_cons_succ, List.getElem?_cons_succ, List.getElem?_cons_zero, Option.some.injEq, List.cons.injEq, V.int.injEq, V.str.injEq, V.bl.injEq, V.ref.injEq, and_true, true_and, exists_eq_left, exists_eq_left', exists_eq_right, exists_eq_right', exists_eq, exists_and_left, exists_and_right, and_assoc, exists_false, false_and, and_false, or_false, false_or, reduceCtorEq, Nat.reduceAdd, Nat.reduceSub, List.append_assoc, eq_self, if_true, if_false, Bool.false_eq_true, decide_eq_true_eq, List.length_cons, List.length_nil, e1]
        exact ⟨d, c, pl, pw, pool, rfl, i3, ndc, npd, npc, k3.lst sp5 nmp, pts_tk dp5 (dr5.s.tkt k3), op, hl0, hl, by omega, fun y H4 x k4 dr4 d4 o4 w4 => qk y H4 (vlD x) k4 dr4 ⟨x, rfl, o4, w4⟩ d4⟩
      · obtain ⟨xs, rfl, ox, wx⟩ := map_of pd6
        have xl : xs.length ≤ 3 := by rw [List.length_map] at dl6; omega
        have wx3 : vws xs ≤ 3 * 4 ^ (n + 1) := Nat.le_trans (vws_mul wx) (Nat.mul_le_mul_right _ xl)
        have pw4 : 4 ≤ 4 ^ (n + 1) ∧ 4 ^ (n + 1) ≤ 64 := by
          have : n = 0 ∨ n = 1 ∨ n = 2 := by omega
          rcases this with rfl | rfl | rfl <;> decide
        have g1 : gN n 100 ≤ 1900 ∧ gN n (gB 100) ≤ 1900 := by
          have : n = 0 ∨ n = 1 ∨ n = 2 := by omega
          rcases this with rfl | rfl | rfl <;> decide
        refine ⟨D2, D5, us, vs6, ascP l, xs, 100, 100, rfl, k6.lst hd5 nm2, hd6, pts_tk da5 (dr5.s.tkt k6), da6, ok, by omega, fun v hv => (ox v hv).1, g1.1, g1.2, by omega, i6.t, fun y H7 ps ms k7 t7 d7 ok7 l7 om7 wm7 lm7 nf7 => ?_⟩
        refine k y H7 ps ms ((q4.trans (Kt.of k5)).trans (k6.trans k7.up)) (i6.kt k7 t7) d7 ⟨.set ok7 om7, nf7⟩ ?_
        rw [vw, Nat.pow_succ]; omega
theorem fnG_f {k : Nat} {f : Addr} {fd : FuncData} {ps : List Str} : FnG P w K mg base k f fd ps fun _ _ _ _ => False := fnG_false
theorem okValue (W : Ds K mg) (B : Tbs W base) : ∀ n : Nat, FnG P w K mg base (2 * n + 8) W.f__law_draw_value W.fd__law_draw_value P__law_draw_value (sp_value K B.T n)
  | 0 => ok__law_draw_value W B 0 fnG_false fnG_false
  | n + 1 => ok__law_draw_value W B (n + 1) (okValue W B n) (ok__law_draw_set W B n (okValue W B n))
theorem okSet (W : Ds K mg) (B : Tbs W base) (n : Nat) : FnG P w K mg base (2 * n + 9) W.f__law_draw_set W.fd__law_draw_set P__law_draw_set (sp_set K B.T n) := ok__law_draw_set W B n (okValue W B n)
end
end G
set_option Elab.async false
set_option linter.all false
set_option maxRecDepth 100000
set_option maxHeartbeats 4000000
set_option exponentiation.threshold 10000
namespace G
open PySem L2 LamX NdefX
section
variable {P : Program} {w : World} {K : PySem.W.Frag} {mg : Str → Option Value} {base : Heap}
/-! ### _law_alike -/
def sp__law_alike (K : PySem.W.Frag) (T : List (Addr × Str)) (n : Nat) : Sp := fun vs H Q _ => ∃ (v u : V) (a : Addr) (x z : Vl) (pw : List V) (pts : List Pt) (bo b : Nat), vs = [v, .ref a, u] ∧ Dp K H v (vlD x) ∧ VOk n bo x ∧ gN n bo ≤ 1900 ∧ vw x < 500 ∧
  H a = some (.lst pw) ∧ DpAll K H pw (pts.map ptD) ∧ PtsOk b pts ∧ b ≤ bo ∧ gN n (gB b) ≤ 1900 ∧ pts.length < 400 ∧ Dp K H u (vlD z) ∧ VOk n (gB b) z ∧ Tabs T H ∧
  ∀ (H' : Hp), Kt M0 H H' → Tabs T H' → Q (.bl (eqB (placedV x pts) z)) H'
theorem ok__law_alike (W : Ds K mg) (B : Tbs W base) (n : Nat) : FnG P w K mg base (n + 8) W.f__law_alike W.fd__law_alike P__law_alike (sp__law_alike K B.T n) := by
  refine fnG_ok W.D__law_alike.F sc__law_alike (fun vs H Q E h => ?len) (fun cdv A outer s H vs Q E nr hr h => ?body)
  case len =>
    obtain ⟨v, u, a, x, z, pw, pts, bo, b, rfl, _⟩ := h
    rfl
  case body =>
    obtain ⟨v, u, a, x, z, pw, pts, bo, b, rfl, dx, ox, hbo, wx, ha, da, op, hbb, hb, hl, du, oz, tb, k⟩ := h
    have nd := sc__law_alike.nd
    have hu := hu_of hr
    have hu64 := hr.units
    have hu65 := hu65_of hr
    refine ⟨_, (pss_one (ps_ret (pe_cmpR (k_eqD K hu64) (peG_call (ok__law_placed W B n) nr (hr.mono (by first | decide | omega)) rfl W.D__law_placed.g W.D__law_placed.F.kp W.D__law_placed.b (pa_cons (pv 0) (pa_cons (pv 1) pa_nil))) (pv 2) (nomark _)))), ?_⟩
    simp only [tSeq, tIfS, tNext, tRet, tRetN, tAsg, tDrop, tPar, tCons, tNil, tCB, tVar, tC, tOp, rI, rI0, rU, tTest, tB, tTup, tLst, gName, tIf, tAnd, tOr, tNot, tAndV, tOrV, tNotV, tUn, tCall, tChain, tSl, tNoPart, tPart, tBM, tBM0, tDGet, sDPut, tAugS, ipI, tAug, rIxT, rIxL, rMulK, rLenK, rLstK, tTruK, gTup, gCons, gNil, rEq, rNe, scal, tNever, rMulK, rGcd, L2.start, List.map, List.length, List.replicate, List.cons_append, List.nil_append, List.append_nil, List.set, List.set_cons_zero, List.set_cons_succ, List.getElem?_cons_succ, List.getElem?_cons_zero, Option.some.injEq, List.cons.injEq, V.int.injEq, V.str.injEq, V.bl.injEq, V.ref.injEq, and_true, true_and, exists_eq_left, exists_eq_left', exists_eq_right, exists_eq_right', exists_eq, exists_and_left, exists_and_right, and_assoc, exists_false, false_and, and_false, or_false, false_or, reduceCtorEq, Nat.reduceAdd, Nat.reduceSub, List.append_assoc, eq_self, if_true, if_false, Bool.false_eq_true, decide_eq_true_eq, List.length_cons, List.length_nil]
    have n28 := gN_28 hb
    refine ⟨v, a, x, pw, pts, bo, b, rfl, dx, ox, hbo, by omega, ha, da, op, hb, by omega, tb, fun y H1 k1 t1 d1 => ?_⟩
    obtain ⟨po, _⟩ := placed_ok (points := pts) ox op (by omega)
    refine eqD d1.up (dv_tk du k1.tk0).up (vl_shaped po n28) (vl_shaped oz n28) rfl ?_
    exact k H1 k1 t1
/-! ### _law_due -/
def sp__law_due (K : PySem.W.Frag) (T : List (Addr × Str)) (n : Nat) : Sp := fun vs H Q _ => ∃ (v u : V) (a : Addr) (x y : Vl) (pw : List V) (pts : List Pt) (bo b : Nat), vs = [v, u, .ref a] ∧ Dp K H v (vlD x) ∧ Dp K H u (vlD y) ∧ VOk n bo x ∧ VOk n bo y ∧ Nf y ∧ gN n bo ≤ 1900 ∧ vw x < 500 ∧ vw y < 500 ∧
  H a = some (.lst pw) ∧ DpAll K H pw (pts.map ptD) ∧ PtsOk b pts ∧ b ≤ bo ∧ gN n (gB b) ≤ 1900 ∧ pts.length < 400 ∧ Tabs T H ∧
  (placedV x pts = placedV y pts → ∀ (r : V) (H' : Hp), Kt M0 H H' → Tabs T H' → Dp K H' r (mvD (onP pts x) (onP pts y)) → Q r H') ∧
  (placedV x pts ≠ placedV y pts → ∀ (H' : Hp), Kt M0 H H' → Tabs T H' → Q .non H')
theorem ok__law_due (W : Ds K mg) (B : Tbs W base) (n : Nat) : FnG P w K mg base (n + 9) W.f__law_due W.fd__law_due P__law_due (sp__law_due K B.T n) := by
  refine fnG_ok W.D__law_due.F sc__law_due (fun vs H Q E h => ?len) (fun cdv A outer s H vs Q E nr hr h => ?body)
  case len =>
    obtain ⟨v, u, a, x, y, pw, pts, bo, b, rfl, _⟩ := h
    rfl
  case body =>
    obtain ⟨v, u, a, x, y, pw, pts, bo, b, rfl, dx, dy, ox, oy, ny, hbo, wx, wy, ha, da, op, hbb, hb, hl, tb, k1, k2⟩ := h
    have nd := sc__law_due.nd
    have hu := hu_of hr
    have hu64 := hr.units
    have hu65 := hu65_of hr
    refine ⟨_, (pss_cons (ps_if (pt_not (pt_val (peG_call (ok__law_alike W B n) nr (hr.mono (by first | decide | omega)) rfl W.D__law_alike.g W.D__law_alike.F.kp W.D__law_alike.b (pa_cons (pv 0) (pa_cons (pv 2) (pa_cons (peG_call (ok__law_placed W B n) nr (hr.mono (by first | decide | omega)) rfl W.D__law_placed.g W.D__law_placed.F.kp W.D__law_placed.b (pa_cons (pv 1) (pa_cons (pv 2) pa_nil))) pa_nil))))))
     (pss_one (ps_ret pe_non))
     pss_nil)
  (pss_cons (ps_par (i := 3) (j := 4) rfl nd rfl rfl (by decide) rfl rfl (pa_cons (pe_call (ok__law_ascending W) (hr.mono (by first | decide | omega)) rfl W.D__law_ascending.g W.D__law_ascending.F.kp W.D__law_ascending.b .nil pass0 (pa_cons (pe_op op_cat (pv 2) (pe_call (ok__law_support W n) (hr.mono (by first | decide | omega)) rfl W.D__law_support.g W.D__law_support.F.kp W.D__law_support.b .nil pass0 (pa_cons (pv 0) pa_nil))) pa_nil)) (pa_cons (pe_call (ok__law_ascending W) (hr.mono (by first | decide | omega)) rfl W.D__law_ascending.g W.D__law_ascending.F.kp W.D__law_ascending.b .nil pass0 (pa_cons (pe_op op_cat (pv 2) (pe_call (ok__law_support W n) (hr.mono (by first | decide | omega)) rfl W.D__law_support.g W.D__law_support.F.kp W.D__law_support.b .nil pass0 (pa_cons (pv 1) pa_nil))) pa_nil)) pa_nil)) (by rfl))
  (pss_one (ps_ret (pe_callTy (c_tuple K) (by rfl) W.T.b_tuple (by decide +kernel) (pa_cons (pe_lc (own := [("old", 5), ("new", 6)]) rfl nd (i_zip K (pi_zip (by rfl) W.T.b_zip (pa_cons (pv 3) (pa_cons (pv 4) pa_nil)))) (blkOk_by (N := N__law_due) (sc := defScope s__law_due) (by decide +kernel)) (fun _ _ _ _ _ => (g_tup K (pg_tup (n := 2) rfl (pgs_cons (pg_name (i := 5) nd rfl (by first | exact Or.inl rfl | exact Or.inr rfl)) (pgs_cons (pg_name (i := 6) nd rfl (by first | exact Or.inl rfl | exact Or.inr rfl)) pgs_nil))))) (fun _ _ _ _ _ => pts_nil) (fun _ _ _ _ _ => (pe_tup (pa_cons (pv 5) (pa_cons (pv 6) pa_nil))))) pa_nil)))))), ?_⟩
    simp only [tSeq, tIfS, tNext, tRet, tRetN, tAsg, tDrop, tPar, tCons, tNil, tCB, tVar, tC, tOp, rI, rI0, rU, tTest, tB, tTup, tLst, gName, tIf, tAnd, tOr, tNot, tAndV, tOrV, tNotV, tUn, tCall, tChain, tSl, tNoPart, tPart, tBM, tBM0, tDGet, sDPut, tAugS, ipI, tAug, rIxT, rIxL, rMulK, rLenK, rLstK, tTruK, gTup, gCons, gNil, rEq, rNe, scal, tNever, rMulK, rGcd, L2.start, List.map, List.length, List.replicate, List.cons_append, List.nil_append, List.append_nil, List.set, List.set_cons_zero, List.set_cons_succ, List.getElem?_cons_succ, List.getElem?_cons_zero, Option.some.injEq, List.cons.injEq, V.int.injEq, V.str.injEq, V.bl.injEq, V.ref.injEq, and_true, true_and, exists_eq_left, exists_eq_left', exists_eq_right, exists_eq_right', exists_eq, exists_and_left, exists_and_right, and_assoc, exists_false, false_and, and_false, or_false, false_or, reduceCtorEq, Nat.reduceAdd, Nat.reduceSub, List.append_assoc, eq_self, if_true, if_false, Bool.false_eq_true, decide_eq_true_eq, List.length_cons, List.length_nil]
    have szL := sizeLine_eq
    have g1 := gN_ge n bo
    have sx := sup_ok ox
    have sy := sup_ok oy
    have lx := sup_len ox
    have ly := sup_len oy
    refine ⟨u, a, y, pw, pts, bo, b, rfl, dy, oy, hbo, by omega, ha, da, op, hb, by omega, tb, fun z H1 q1 t1 d1 => ?_⟩
    obtain ⟨po, _⟩ := placed_ok (points := pts) oy op (by omega)
    refine ⟨v, z, a, x, placedV y pts, pw, pts, bo, b, rfl, dv_tk dx q1.tk0, ox, hbo, wx, q1.lst ha (fun z => z), pts_tk da q1.tk0, op, hbb, hb, hl, d1, po, t1, fun H2 q2 t2 => ⟨_, rfl, ?_⟩⟩
    have q12 := q1.trans q2
    by_cases e : placedV x pts = placedV y pts
    · rw [eqB_iff.mpr e, if_neg (by simp)]
      have A := alike_move ox oy ny op (by omega) (by omega) e
      have allx : ∀ z ∈ pts ++ supV x, PtOk z ∧ Sz 4000 z := fun z hz => by
        rcases List.mem_append.mp hz with w | w
        · exact ⟨op.ok z w, (op.sz z w).mono (by omega)⟩
        · exact ⟨sx.ok z w, (sx.sz z w).mono (by omega)⟩
      have ally : ∀ z ∈ pts ++ supV y, PtOk z ∧ Sz 4000 z := fun z hz => by
        rcases List.mem_append.mp hz with w | w
        · exact ⟨op.ok z w, (op.sz z w).mono (by omega)⟩
        · exact ⟨sy.ok z w, (sy.sz z w).mono (by omega)⟩
      have al : (onP pts x).length ≤ pts.length + (supV x).length := by
        rw [← on_asc ox op (by omega), ← List.length_append]
        exact asc_le allx
      have ml := A.mv.l
      have pl : pw.length = pts.length := by rw [dps_len da, List.length_map]
      refine ⟨v, x, bo, rfl, dv_tk dx q12.tk0, ox, by omega, by omega, fun D H3 us hD q3 hd3 da3 => ?_⟩
      have ha2 := q12.lst ha fun z => z
      have ha3 := q3 _ _ ha2 fun z => z
      have tk3 : Tk H H3 := q12.tk0.trans (Tk.of0 q3)
      have ul : us.length = (supV x).length := by rw [dps_len da3, List.length_map]
      refine ⟨a, D, pw, us, rfl, rfl, ha3, hd3, by omega, fun p hp => ?_⟩
      refine ⟨p, pw ++ us, pts ++ supV x, rfl, sqL_mk upd_same, by rw [List.map_append]; exact dps_app (pts_tk da (tk3.trans (Tk.new hp))) (pts_tk da3 (Tk.new hp)), allx, by rw [List.length_append]; omega, fun D2 H4 us2 hD2 q4 hd4 da4 => ?_⟩
      rw [on_asc ox op (by omega)] at da4
      have q24 := (q3.trans (Kp.new (o := .lst (pw ++ us)) hp)).trans q4
      have tk4 : Tk H H4 := q12.tk0.trans (Tk.of0 q24)
      refine ⟨u, y, bo, rfl, dv_tk dy tk4, oy, by omega, by omega, fun E1 H5 vs5 hE q5 he5 de5 => ?_⟩
      have ha5 := (q24.trans q5) _ _ ha2 fun z => z
      have tk5 := tk4.trans (Tk.of0 q5)
      have vl : vs5.length = (supV y).length := by rw [dps_len de5, List.length_map]
      refine ⟨a, E1, pw, vs5, rfl, rfl, ha5, he5, by omega, fun p2 hp2 => ?_⟩
      refine ⟨p2, pw ++ vs5, pts ++ supV y, rfl, sqL_mk upd_same, by rw [List.map_append]; exact dps_app (pts_tk da (tk5.trans (Tk.new hp2))) (pts_tk de5 (Tk.new hp2)), ally, by rw [List.length_append]; omega, fun E2 H6 vs6 hE2 q6 he6 de6 => ?_⟩
      rw [on_asc oy op (by omega)] at de6
      have q46 := (q5.trans (Kp.new (o := .lst (pw ++ vs5)) hp2)).trans q6
      have hd6 := q46 _ _ hd4 fun z => z
      have da6 := pts_tk da4 (Tk.of0 q46)
      have l6 : us2.length = (onP pts x).length := by rw [dps_len da6, List.length_map]
      have m6 : vs6.length = (onP pts y).length := by rw [dps_len de6, List.length_map]
      refine tlcZw ?_
      simp only [tSeq, tIfS, tNext, tRet, tRetN, tAsg, tDrop, tPar, tCons, tNil, tCB, tVar, tC, tOp, rI, rI0, rU, tTest, tB, tTup, tLst, gName, tIf, tAnd, tOr, tNot, tAndV, tOrV, tNotV, tUn, tCall, tChain, tSl, tNoPart, tPart, tBM, tBM0, tDGet, sDPut, tAugS, ipI, tAug, rIxT, rIxL, rMulK, rLenK, rLstK, tTruK, gTup, gCons, gNil, rEq, rNe, scal, tNever, rMulK, rGcd, L2.start, List.map, List.length, List.replicate, List.cons_append, List.nil_append, List.append_nil, List.set, List.set_cons_zero, List.set_cons_succ, List.getElem?_cons_succ, List.getElem?_cons_zero, Option.some.injEq, List.cons.injEq, V.int.injEq, V.str.injEq, V.bl.injEq, V.ref.injEq, and_true, true_and, exists_eq_left, exists_eq_left', exists_eq_right, exists_eq_right', exists_eq, exists_and_left, exists_and_right, and_assoc, exists_false, false_and, and_false, or_false, false_or, reduceCtorEq, Nat.reduceAdd, Nat.reduceSub, List.append_assoc, eq_self, if_true, if_false, Bool.false_eq_true, decide_eq_true_eq, List.length_cons, List.length_nil]
      refine lcZe (((onP pts x).zip (onP pts y)).map mpD) (mps_tup _) hd6 he6 (by omega) (by rw [List.length_map, List.length_zip]; omega) (by omega) (fun i z w T H' e hx hy he kp hT N q => ?_) fun D7 us7 H7 hD7 kp7 hd7 du7 => ?_
      · rw [List.getElem?_map] at he
        cases e1 : ((onP pts x).zip (onP pts y))[i]? with
        | none => rw [e1] at he; cases he
        | some p =>
          rw [e1] at he
          cases he
          obtain ⟨o1, o2⟩ := List.getElem?_zip_eq_some.mp e1
          obtain ⟨d1, e2, dz⟩ := dps_get (pts_tk da6 (Tk.of0 kp)) hx
          obtain ⟨d2, e3, dw⟩ := dps_get (pts_tk de6 (Tk.of0 kp)) hy
          rw [List.getElem?_map, o1] at e2
          rw [List.getElem?_map, o2] at e3
          cases e2
          cases e3
          simp only [tSeq, tIfS, tNext, tRet, tRetN, tAsg, tDrop, tPar, tCons, tNil, tCB, tVar, tC, tOp, rI, rI0, rU, tTest, tB, tTup, tLst, gName, tIf, tAnd, tOr, tNot, tAndV, tOrV, tNotV, tUn, tCall, tChain, tSl, tNoPart, tPart, tBM, tBM0, tDGet, sDPut, tAugS, ipI, tAug, rIxT, rIxL, rMulK, rLenK, rLstK, tTruK, gTup, gCons, gNil, rEq, rNe, scal, tNever, rMulK, rGcd, L2.start, List.map, List.length, List.replicate, List.cons_append, List.nil_append, List.append_nil, List.set, List.set_cons_zero, List.set_cons_succ, List.getElem?_cons_succ, List.getElem?_cons_zero, Option.some.injEq, List.cons.injEq, V.int.injEq, V.str.injEq, V.bl.injEq, V.ref.injEq, and_true, true_and, exists_eq_left, exists_eq_left', exists_eq_right, exists_eq_right', exists_eq, exists_and_left, exists_and_right, and_assoc, exists_false, false_and, and_false, or_false, false_or, reduceCtorEq, Nat.reduceAdd, Nat.reduceSub, List.append_assoc, eq_self, if_true, if_false, Bool.false_eq_true, decide_eq_true_eq, List.length_cons, List.length_nil]
          refine ⟨_, sqT_mk upd_same, rfl, _, _, rfl, _, _, rfl, rfl, rfl, _, rfl, _, rfl, by decide, fun t ht => ?_⟩
          have tk := (Tk.new (o := .tup [z, w]) hT).trans (Tk.new (o := .tup [z, w]) ht)
          exact q _ _ (Kp.new ht) (.tup upd_same (.cons (dp_tk tk _ _ (ptD_tup _) dz) (.cons (dp_tk tk _ _ (ptD_tup _) dw) .nil)))
      · have ul7 : us7.length = (onP pts x).length := by rw [dps_len du7, List.length_map, List.length_zip]; omega
        refine ⟨D7, us7, rfl, Or.inl ⟨sqL_mk hd7, fun t ht => ?_⟩⟩
        have q27 := ((q24.trans q46).trans kp7).trans (Kp.new (o := .tup us7) ht)
        exact k1 e _ _ (q12.trans (Kt.of0 q27)) (tabs_kp t2 q27) (.tup upd_same (dps_tk (Tk.new ht) _ _ (mps_tup _) du7))
    · have en : eqB (placedV x pts) (placedV y pts) = false := by
        cases z : eqB (placedV x pts) (placedV y pts) with
        | false => rfl
        | true => exact absurd (eqB_iff.mp z) e
      rw [en, if_pos (by simp)]
      exact k2 e H2 q12 t2
end
end G
set_option Elab.async false
set_option linter.all false
set_option maxRecDepth 100000
set_option maxHeartbeats 4000000
set_option exponentiation.threshold 10000
namespace G
open PySem L2 LamX NdefX
section
variable {P : Program} {w : World} {K : PySem.W.Frag} {mg : Str → Option Value} {base : Heap}
/-! ### a comprehension that keeps some, in their order -/
theorem lcLs {T : List (Addr × Str)} {d c a : Addr} {s : Nat} {tt : TT} {te : TE} {σ : L2.St} {H1 : Hp} {Q : VK} {xs : List V} (pts : List Pt) (dr : Drw T d c H1) (ha : H1 a = some (.lst xs)) (nad : a ≠ d) (nac : a ≠ c) (hxs : DpAll K H1 xs (pts.map ptD)) (hn : pts.length < sizeLine)
    (htt : ∀ (x : V) (H : Hp), Kt (Mdc d c) H1 H → Drw T d c H → ∀ Q' : Bool → Hp → Prop, (∀ b H3, Kt (Mdc d c) H H3 → Drw T d c H3 → Q' b H3) → tt ((σ.set s none).set s (some x)) H Q')
    (hte : ∀ (x : V) (H : Hp) (Q' : VK), Q' x H → te ((σ.set s none).set s (some x)) H Q')
    (hq : ∀ (D : Addr) (H : Hp) (vs : List V) (l : List Pt), H1 D = none → Kt (Mdc d c) H1 H → Drw T d c H → H D = some (.lst vs) → DpAll K H vs (l.map ptD) → l.Sublist pts → Q (.ref D) H) : LcL K s tt te σ Q (.ref a) H1 := by
  have nm : ¬ Mdc d c a := fun z => z.elim nad nac
  refine ⟨a, rfl, ⟨xs, sqL_mk ha⟩, fun D hD => ?_⟩
  obtain ⟨i0, mD⟩ := drw_hI dr D hD
  have hl : xs.length = pts.length := by rw [dps_len hxs, List.length_map]
  refine lc_list (xs := xs) (Qd := fun H => Q (.ref D) H) (fun i H => ∃ vs l, Kt (Mdc d c) H1 H ∧ Drw T d c H ∧ H D = some (.lst vs) ∧ DpAll K H vs (l.map ptD) ∧ l.Sublist (pts.take i))
    ⟨[], [], (Kt.refl H1).at hD, i0, upd_same, .nil, by simp⟩ (fun i H _ ⟨_, _, k, _⟩ => sqL_mk (k.lst ha nm)) (fun i x H hi p => ?_) fun H p => ?_
  · obtain ⟨vs, l, k, dr2, hd, da, sb⟩ := p
    have hi' := (List.getElem?_eq_some_iff.mp hi).1
    refine ⟨wipe1 σ s _, ?_⟩
    refine htt x H k dr2 _ fun b H3 k3 dr3 => ?_
    have hd3 : H3 D = some (.lst vs) := k3.lst hd mD
    have tk3 : Tk H H3 := dr2.s.tkt k3
    obtain ⟨e, e1, e2⟩ := dps_get (pts_tk hxs ((dr.s.tkt k).trans tk3)) hi
    rw [List.getElem?_map] at e1
    cases e3 : pts[i]? with
    | none => rw [e3] at e1; cases e1
    | some y =>
      rw [e3] at e1; cases e1
      have le : l.length ≤ i := Nat.le_trans sb.length_le (by rw [List.length_take]; omega)
      refine ite2 (fun hb => ?_) (fun hb => ?_)
      · refine hte x H3 _ ?_
        refine ⟨vs, hd3, by rw [dps_len da, List.length_map]; omega, vs ++ [x], l ++ [y], (k.trans k3).at hD, drw_hst D _ _ _ dr3 hd3 mD, upd_same, ?_, ?_⟩
        · rw [List.map_append]
          exact dps_app (pts_tk da (tk3.trans (Tk.lst hd3))) (dps_one (dp_tk (Tk.lst hd3) _ x rfl e2))
        · rw [take_snoc e3]
          exact List.Sublist.append sb (List.Sublist.refl _)
      · refine ⟨vs, l, k.trans k3, dr3, hd3, pts_tk da tk3, ?_⟩
        rw [take_snoc e3]
        exact sb.trans (List.sublist_append_left _ _)
  · obtain ⟨vs, l, k, dr2, hd, da, sb⟩ := p
    rw [hl, List.take_length] at sb
    exact hq D H vs l hD k dr2 hd da sb
/-! ### what the law knows -/
def sp_lawT (K : PySem.W.Frag) (T : List (Addr × Str)) : Sp := fun vs H Q _ => ∃ (a : Addr) (ns : List Int), vs = [.ref a] ∧ SqL K H a (ns.map V.int) ∧ ns.length ≤ 63 ∧ Tabs T H ∧ ∀ H', Q (.bl true) H'
/-- a value of so many bits -/
structure VlI (K : PySem.W.Frag) (b : Nat) (u : V) (z : Vl) (H : Hp) : Prop where
  d : Dp K H u (vlD z)
  o : VOk 3 b z
  nf : Nf z
  w : vw z ≤ 256
theorem VlI.tk {b : Nat} {u : V} {z : Vl} {H H' : Hp} (A : VlI K b u z H) (t : Tk H H') : VlI K b u z H' := ⟨dv_tk A.d t, A.o, A.nf, A.w⟩
theorem VlI.up {b c : Nat} {u : V} {z : Vl} {H : Hp} (A : VlI K b u z H) (h : b ≤ c) : VlI K c u z H := ⟨A.d, A.o.mono (Nat.le_refl _) h, A.nf, A.w⟩
/-- a list of points -/
structure KpI (K : PySem.W.Frag) (d c a : Addr) (ws : List V) (l : List Pt) (H : Hp) : Prop where
  nd : a ≠ d
  nc : a ≠ c
  h : H a = some (.lst ws)
  dp : DpAll K H ws (l.map ptD)
  ok : PtsOk 100 l
  len : l.length ≤ 256
theorem KpI.kt {d c a : Addr} {ws : List V} {l : List Pt} {H H' : Hp} (A : KpI K d c a ws l H) (S : SrcAt H d c) (k : Kt (Mdc d c) H H') : KpI K d c a ws l H' := ⟨A.nd, A.nc, k.lst A.h (fun z => z.elim A.nd A.nc), pts_tk A.dp (S.tkt k), A.ok, A.len⟩
theorem KpI.wl {d c a : Addr} {ws : List V} {l : List Pt} {H : Hp} (A : KpI K d c a ws l H) : ws.length = l.length := by rw [dps_len A.dp, List.length_map]
theorem KpI.mk' {d c a : Addr} {ws : List V} {l : List Pt} {H H' : Hp} (S : SrcAt H d c) (n : H a = none) (h : H' a = some (.lst ws)) (dp : DpAll K H' ws (l.map ptD)) (ok : PtsOk 100 l) (len : l.length ≤ 256) : KpI K d c a ws l H' := ⟨Ne.symm (S.d_ne n), Ne.symm (S.c_ne n), h, dp, ok, len⟩
structure LawI (K : PySem.W.Frag) (T : List (Addr × Str)) (d c pl : Addr) (pw : List V) (pool : List Pt) (H : Hp) : Prop where
  dr : Drw T d c H
  l : KpI K d c pl pw pool H
  l0 : 0 < pool.length
  l1 : pool.length ≤ 100
theorem LawI.kt {T : List (Addr × Str)} {d c pl : Addr} {pw : List V} {pool : List Pt} {H H' : Hp} (I : LawI K T d c pl pw pool H) (k : Kt (Mdc d c) H H') (dr : Drw T d c H') : LawI K T d c pl pw pool H' := ⟨dr, I.l.kt I.dr.s k, I.l0, I.l1⟩
/-- the four values, and the points that are kept -/
structure QI (K : PySem.W.Frag) (T : List (Addr × Str)) (d c kp : Addr) (kw : List V) (kept : List Pt) (v o l n : V) (x y z : Vl) (H : Hp) : Prop where
  dr : Drw T d c H
  kp' : KpI K d c kp kw kept H
  v' : VlI K 100 v x H
  o' : VlI K 100 o y H
  l' : VlI K 100 l z H
  n' : VlI K 212 n (placedV x kept) H
  led : placedV z [] = placedV x []
section
variable {T : List (Addr × Str)} {d c kp : Addr} {kw : List V} {kept : List Pt} {v o l n : V} {x y z : Vl} {H H' : Hp}
theorem QI.k0 (A : QI K T d c kp kw kept v o l n x y z H) (k : Kt M0 H H') (t : Tabs T H') : QI K T d c kp kw kept v o l n x y z H' :=
  ⟨A.dr.kt k t, A.kp'.kt A.dr.s k.up, A.v'.tk k.tk0, A.o'.tk k.tk0, A.l'.tk k.tk0, A.n'.tk k.tk0, A.led⟩
theorem QI.up (A : QI K T d c kp kw kept v o l n x y z H) (k : Kp M0 H H') : QI K T d c kp kw kept v o l n x y z H' := A.k0 (Kt.of k) (tabs_kp A.dr.t k)
end
/-! ### the law's stages -/
def T0 (K : PySem.W.Frag) (T : List (Addr × Str)) (a : Addr) (d : Addr) (c : Addr) (_ : Nat) (σ : L2.St) (H : Hp) : Prop := ∃ w2 w3 w4 w5 w6 w7 w8 w9 w10 w11 w12 w13 w14 : Option V, σ = [some (.ref a), some (.ref d), w2, w3, w4, w5, w6, w7, w8, w9, w10, w11, w12, w13, w14] ∧ Drw T d c H
def T1 (K : PySem.W.Frag) (T : List (Addr × Str)) (a : Addr) (d : Addr) (c : Addr) (σ : L2.St) (H : Hp) : Prop := ∃ (w2 w4 w5 w6 w7 w8 w9 w10 w11 w12 w13 w14 : Option V) (pl : Addr) (pw : List V) (pool : List Pt), σ = [some (.ref a), some (.ref d), w2, some (.ref pl), w4, w5, w6, w7, w8, w9, w10, w11, w12, w13, w14] ∧ LawI K T d c pl pw pool H
def T2 (K : PySem.W.Frag) (T : List (Addr × Str)) (a : Addr) (d : Addr) (c : Addr) (pl : Addr) (pw : List V) (pool : List Pt) (σ : L2.St) (H : Hp) : Prop := ∃ (w2 w6 w7 w8 w9 w10 w11 w12 w13 w14 : Option V) (v o : V) (x y : Vl), σ = [some (.ref a), some (.ref d), w2, some (.ref pl), some v, some o, w6, w7, w8, w9, w10, w11, w12, w13, w14] ∧ LawI K T d c pl pw pool H ∧ VlI K 100 v x H ∧ VlI K 100 o y H
def T3 (K : PySem.W.Frag) (T : List (Addr × Str)) (a : Addr) (d : Addr) (c : Addr) (pl : Addr) (pw : List V) (pool : List Pt) (v : V) (o : V) (x : Vl) (y : Vl) (σ : L2.St) (H : Hp) : Prop := ∃ (w2 w7 w8 w9 w10 w11 w12 w13 w14 : Option V) (oa : Addr) (ow : List V), σ = [some (.ref a), some (.ref d), w2, some (.ref pl), some v, some o, some (.ref oa), w7, w8, w9, w10, w11, w12, w13, w14] ∧ LawI K T d c pl pw pool H ∧ VlI K 100 v x H ∧ VlI K 100 o y H ∧ KpI K d c oa ow (supV x) H
def T4 (K : PySem.W.Frag) (T : List (Addr × Str)) (a : Addr) (d : Addr) (c : Addr) (pl : Addr) (pw : List V) (pool : List Pt) (v : V) (o : V) (x : Vl) (y : Vl) (σ : L2.St) (H : Hp) : Prop := ∃ (w2 w6 w8 w9 w10 w11 w12 w13 w14 : Option V) (l : V) (z : Vl), σ = [some (.ref a), some (.ref d), w2, some (.ref pl), some v, some o, w6, some l, w8, w9, w10, w11, w12, w13, w14] ∧ LawI K T d c pl pw pool H ∧ VlI K 100 v x H ∧ VlI K 100 o y H ∧ VlI K 100 l z H ∧ placedV z [] = placedV x []
def T5 (K : PySem.W.Frag) (T : List (Addr × Str)) (a : Addr) (d : Addr) (c : Addr) (v : V) (o : V) (l : V) (x : Vl) (y : Vl) (z : Vl) (σ : L2.St) (H : Hp) : Prop := ∃ (w2 w3 w6 w8 w10 w11 w12 w13 w14 : Option V) (kp : Addr) (kw : List V) (kept : List Pt), σ = [some (.ref a), some (.ref d), w2, w3, some v, some o, w6, some l, w8, some (.ref kp), w10, w11, w12, w13, w14] ∧ Drw T d c H ∧ KpI K d c kp kw kept H ∧ VlI K 100 v x H ∧ VlI K 100 o y H ∧ VlI K 100 l z H
def T6 (K : PySem.W.Frag) (T : List (Addr × Str)) (a : Addr) (d : Addr) (c : Addr) (kp : Addr) (kw : List V) (kept : List Pt) (v : V) (o : V) (l : V) (x : Vl) (y : Vl) (z : Vl) (σ : L2.St) (H : Hp) : Prop := ∃ (w2 w3 w6 w8 w11 w12 w13 w14 : Option V) (n : V), σ = [some (.ref a), some (.ref d), w2, w3, some v, some o, w6, some l, w8, some (.ref kp), some n, w11, w12, w13, w14] ∧ QI K T d c kp kw kept v o l n x y z H
def T7 (K : PySem.W.Frag) (T : List (Addr × Str)) (a : Addr) (d : Addr) (c : Addr) (kp : Addr) (kw : List V) (kept : List Pt) (v : V) (o : V) (l : V) (n : V) (x : Vl) (y : Vl) (z : Vl) (σ : L2.St) (H : Hp) : Prop := ∃ (w2 w3 w6 w8 w11 w12 w13 w14 : Option V), σ = [some (.ref a), some (.ref d), w2, w3, some v, some o, w6, some l, w8, some (.ref kp), some n, w11, w12, w13, w14] ∧ QI K T d c kp kw kept v o l n x y z H
/-- while one of the four is looked at -/
structure EI (K : PySem.W.Frag) (T : List (Addr × Str)) (d c kp : Addr) (kw : List V) (kept : List Pt) (v o l n : V) (x y z : Vl) (tp : Addr) (u : V) (zz : Vl) (H : Hp) : Prop where
  q : QI K T d c kp kw kept v o l n x y z H
  ht : H tp = some (.tup [v, l, o, n])
  U : VlI K 212 u zz H
structure FI (K : PySem.W.Frag) (T : List (Addr × Str)) (d c kp : Addr) (kw : List V) (kept : List Pt) (v o l n : V) (x y z : Vl) (tp : Addr) (u : V) (zz : Vl) (tp2 el : Addr) (H : Hp) : Prop where
  e : EI K T d c kp kw kept v o l n x y z tp u zz H
  h2 : H tp2 = some (.tup [.ref el, .ref kp])
  L : KpI K d c el [] [] H
section
variable {T : List (Addr × Str)} {d c kp tp tp2 el : Addr} {kw : List V} {kept : List Pt} {v o l n u : V} {x y z zz : Vl} {H H' : Hp}
theorem EI.k0 (A : EI K T d c kp kw kept v o l n x y z tp u zz H) (k : Kt M0 H H') (t : Tabs T H') : EI K T d c kp kw kept v o l n x y z tp u zz H' := ⟨A.q.k0 k t, k.tk0 _ _ A.ht rfl, A.U.tk k.tk0⟩
theorem EI.up (A : EI K T d c kp kw kept v o l n x y z tp u zz H) (k : Kp M0 H H') : EI K T d c kp kw kept v o l n x y z tp u zz H' := A.k0 (Kt.of k) (tabs_kp A.q.dr.t k)
theorem FI.k0 (A : FI K T d c kp kw kept v o l n x y z tp u zz tp2 el H) (k : Kt M0 H H') (t : Tabs T H') : FI K T d c kp kw kept v o l n x y z tp u zz tp2 el H' := ⟨A.e.k0 k t, k.tk0 _ _ A.h2 rfl, A.L.kt A.e.q.dr.s k.up⟩
theorem FI.up (A : FI K T d c kp kw kept v o l n x y z tp u zz tp2 el H) (k : Kp M0 H H') : FI K T d c kp kw kept v o l n x y z tp u zz tp2 el H' := A.k0 (Kt.of k) (tabs_kp A.e.q.dr.t k)
end
def T8 (K : PySem.W.Frag) (T : List (Addr × Str)) (a d c kp : Addr) (kw : List V) (kept : List Pt) (v o l n : V) (x y z : Vl) (tp : Addr) (_ : Nat) (σ : L2.St) (H : Hp) : Prop := ∃ w2 w3 w6 w8 w11 w12 w13 w14 : Option V, σ = [some (.ref a), some (.ref d), w2, w3, some v, some o, w6, some l, w8, some (.ref kp), some n, w11, w12, w13, w14] ∧ QI K T d c kp kw kept v o l n x y z H ∧ H tp = some (.tup [v, l, o, n])
def T9 (K : PySem.W.Frag) (T : List (Addr × Str)) (a d c kp : Addr) (kw : List V) (kept : List Pt) (v o l n : V) (x y z : Vl) (tp : Addr) (u : V) (zz : Vl) (σ : L2.St) (H : Hp) : Prop := ∃ w2 w3 w6 w8 w12 w13 w14 : Option V, σ = [some (.ref a), some (.ref d), w2, w3, some v, some o, w6, some l, w8, some (.ref kp), some n, some u, w12, w13, w14] ∧ EI K T d c kp kw kept v o l n x y z tp u zz H
def T10 (K : PySem.W.Frag) (T : List (Addr × Str)) (a d c kp : Addr) (kw : List V) (kept : List Pt) (v o l n : V) (x y z : Vl) (tp : Addr) (u : V) (zz : Vl) (tp2 el : Addr) (_ : Nat) (σ : L2.St) (H : Hp) : Prop := ∃ w2 w3 w6 w8 w12 w13 w14 : Option V, σ = [some (.ref a), some (.ref d), w2, w3, some v, some o, w6, some l, w8, some (.ref kp), some n, some u, w12, w13, w14] ∧ FI K T d c kp kw kept v o l n x y z tp u zz tp2 el H
/-- what is due: the one move, or nothing -/
def DueI (K : PySem.W.Frag) (pts : List Pt) (x z : Vl) (dv : V) (H : Hp) : Prop := (placedV x pts = placedV z pts ∧ Dp K H dv (mvD (onP pts x) (onP pts z))) ∨ (placedV x pts ≠ placedV z pts ∧ dv = .non)
theorem DueI.tk {pts : List Pt} {x z : Vl} {dv : V} {H H' : Hp} (A : DueI K pts x z dv H) (t : Tk H H') : DueI K pts x z dv H' := A.imp (fun ⟨e, h⟩ => ⟨e, mv_tk h t⟩) id
def T11 (K : PySem.W.Frag) (T : List (Addr × Str)) (a d c kp : Addr) (kw : List V) (kept : List Pt) (v o l n : V) (x y z : Vl) (tp : Addr) (u : V) (zz : Vl) (tp2 el pa : Addr) (pw : List V) (pts : List Pt) (σ : L2.St) (H : Hp) : Prop := ∃ (w2 w3 w6 w8 w14 : Option V) (dv : V), σ = [some (.ref a), some (.ref d), w2, w3, some v, some o, w6, some l, w8, some (.ref kp), some n, some u, some (.ref pa), some dv, w14] ∧ FI K T d c kp kw kept v o l n x y z tp u zz tp2 el H ∧ KpI K d c pa pw pts H ∧ DueI K pts x zz dv H
theorem gR : gN 3 212 ≤ 1900 ∧ gN 3 (gB 100) ≤ 1900 ∧ gN 3 100 ≤ 1900 ∧ gB 100 = 212 := by decide
section
variable {T : List (Addr × Str)} {d c pa : Addr} {pw : List V} {pts : List Pt} {v u : V} {x z : Vl} {H : Hp} {Q : VK} {E : XK}
theorem on_sizes (A : VlI K 100 v x H) (B : VlI K 212 u z H) (ok : PtsOk 100 pts) (len : pts.length ≤ 256) (e : placedV x pts = placedV z pts) : AlkOk 3 212 212 100 x z pts ∧ (onP pts x).length ≤ 512 ∧ (onP pts z).length ≤ 512 := by
  have wa := A.w
  have wb := B.w
  have ox := (A.up (show 100 ≤ 212 by omega)).o
  have M := alike_move ox B.o B.nf ok (by omega) (by omega) e
  have sx := sup_ok ox
  have lx := sup_len ox
  have al : (onP pts x).length ≤ pts.length + (supV x).length := by
    rw [← on_asc ox ok (by omega), ← List.length_append]
    exact asc_le (b := 212) fun q hq => by
      rcases List.mem_append.mp hq with w | w
      · exact ⟨ok.ok q w, (ok.sz q w).mono (by omega)⟩
      · exact ⟨sx.ok q w, sx.sz q w⟩
  have ml := M.mv.l
  exact ⟨M, by omega, by omega⟩
theorem due_go (A : VlI K 100 v x H) (B : VlI K 212 u z H) (S : KpI K d c pa pw pts H) (tb : Tabs T H) (k : ∀ (dv : V) (H' : Hp), Kt M0 H H' → Tabs T H' → DueI K pts x z dv H' → Q dv H') : sp__law_due K T 3 [v, u, .ref pa] H Q E := by
  have wa := A.w
  have wb := B.w
  have sl := S.len
  exact ⟨v, u, pa, x, z, pw, pts, 212, 100, rfl, A.d, B.d, (A.up (by omega)).o, B.o, B.nf, gR.1, by omega, by omega, S.h, S.dp, S.ok, by omega, gR.2.1, by omega, tb, fun e r H' k' t' d' => k r H' k' t' (Or.inl ⟨e, d'⟩), fun e H' k' t' => k _ H' k' t' (Or.inr ⟨e, rfl⟩)⟩
theorem alk_go {p : Addr} (A : VlI K 100 v x H) (B : VlI K 212 u z H) (sp : SqT K H p pw) (dp : DpAll K H pw (pts.map ptD)) (ok : PtsOk 100 pts) (len : pts.length ≤ 256) (tb : Tabs T H) (k : ∀ (dv : V) (H' : Hp), Kt M0 H H' → Tabs T H' → DueI K pts x z dv H' → Q dv H') : sp_alk K T 3 [v, u, .ref p] H Q E := by
  have wa := A.w
  have wb := B.w
  exact ⟨v, u, p, x, z, pw, pts, 212, 100, rfl, A.d, B.d, (A.up (by omega)).o, B.o, A.nf, B.nf, gR.1, by omega, by omega, sp, dp, ok, by omega, gR.2.1, by omega, tb, fun e r H' k' t' d' => k r H' k' t' (Or.inl ⟨e, d'⟩), fun e H' k' t' => k _ H' k' t' (Or.inr ⟨e, rfl⟩)⟩
theorem like_go {p : Addr} (A : VlI K 100 v x H) (B : VlI K 212 u z H) (sp : SqT K H p pw) (dp : DpAll K H pw (pts.map ptD)) (ok : PtsOk 100 pts) (len : pts.length ≤ 256) (tb : Tabs T H) (k : ∀ (H' : Hp), Kt M0 H H' → Tabs T H' → Q (.bl (eqB (placedV x pts) (placedV z pts))) H') : sp_alike K T 3 [.ref p, v, u] H Q E := by
  have wa := A.w
  have wb := B.w
  exact ⟨v, u, p, x, z, pw, pts, 212, 100, rfl, A.d, B.d, (A.up (by omega)).o, B.o, A.nf, B.nf, gR.1, by omega, by omega, sp, dp, ok, by omega, gR.2.1, by omega, tb, k⟩
/-- repr of what is due -/
theorem sh_mv {as bs : List Pt} (ha : ∀ p ∈ as, Sz 1900 p) (hb : ∀ p ∈ bs, Sz 1900 p) : ShD (7 * as.length + 1) (mvD as bs) ∧ (mvD as bs).canLay0 = true ∧ (mvD as bs).depth ≤ 3 := by
  have one : ∀ e ∈ (as.zip bs).map mpD, ShD 7 e ∧ e.canLay0 = true ∧ e.depth ≤ 2 := fun e he => by
    obtain ⟨q, hq, rfl⟩ := List.mem_map.mp he
    have h1 := ha _ (List.of_mem_zip hq).1
    have h2 := hb _ (List.of_mem_zip hq).2
    have t := sh_tup (ds := [ptD q.1, ptD q.2]) (f := fun _ => 3) fun d hd => by
      rcases List.mem_cons.mp hd with rfl | hd
      · exact sh_pt h1
      · rw [List.mem_singleton.mp hd]; exact sh_pt h2
    refine ⟨t, ?_, ?_⟩
    · simp [mpD, PyData.canLay0, PyData.canLayAll0, ptD]
    · simp [mpD, PyData.depth, PyData.depthAll, ptD]
  have t := sh_tup (ds := (as.zip bs).map mpD) (f := fun _ => 7) fun d hd => (one d hd).1
  have sum : (((as.zip bs).map mpD).map fun _ => 7).sum ≤ 7 * as.length := by
    have : ∀ l : List PyData, (l.map fun _ => 7).sum = 7 * l.length := fun l => by
      induction l with
      | nil => rfl
      | cons a l ih => simp only [List.map_cons, List.sum_cons, ih, List.length_cons]; omega
    rw [this, List.length_map, List.length_zip]
    omega
  refine ⟨⟨t.s, t.l, by have := t.b; unfold mvD; omega⟩, ?_, ?_⟩
  · have : ∀ l : List PyData, (∀ e ∈ l, e.canLay0 = true) → PyData.canLayAll0 l = true := fun l h => by
      induction l with
      | nil => simp [PyData.canLayAll0]
      | cons a l ih => simp [PyData.canLayAll0, h a (by simp), ih fun e he => h e (by simp [he])]
    simp only [mvD, PyData.canLay0]
    exact this _ fun e he => (one e he).2.1
  · have : ∀ l : List PyData, (∀ e ∈ l, e.depth ≤ 2) → PyData.depthAll l ≤ 2 := fun l h => by
      induction l with
      | nil => simp [PyData.depthAll]
      | cons a l ih =>
        have := h a (by simp)
        have := ih fun e he => h e (by simp [he])
        simp only [PyData.depthAll]; omega
    have := this _ fun e he => (one e he).2.2
    simp only [mvD, PyData.depth]; omega
theorem repr_due {dv : V} (A : VlI K 100 v x H) (B : VlI K 212 u z H) (ok : PtsOk 100 pts) (len : pts.length ≤ 256) {H' : Hp} (D : DueI K pts x z dv H') (q : Q (.str (if eqB (placedV x pts) (placedV z pts) = true then (mvD (onP pts x) (onP pts z)).shown else PyData.none.shown)) H') : rReprD K [dv] H' Q := by
  rcases D with ⟨e, d⟩ | ⟨e, rfl⟩
  · obtain ⟨M, l1, l2⟩ := on_sizes A B ok len e
    obtain ⟨s, c, dep⟩ := sh_mv (fun p hp => (M.mv.o.sz p hp).mono (by decide)) (fun p hp => (M.mv.n.sz p hp).mono (by decide))
    rw [if_pos (eqB_iff.mpr e)] at q
    exact ⟨dv, _, rfl, d.up, s.s, c, by omega, sh_small s (by omega), q⟩
  · rw [if_neg fun h => e (eqB_iff.mp h)] at q
    exact ⟨.non, .none, rfl, .non, rfl, rfl, by decide, by rw [sizeLine_eq]; decide, q⟩
end
end
end G
set_option Elab.async false
set_option linter.all false
set_option maxRecDepth 100000
set_option maxHeartbeats 8000000
set_option exponentiation.threshold 10000
namespace G
-- RDX L2.tCallN
open PySem L2 LamX NdefX
section
variable {P : Program} {w : World} {K : PySem.W.Frag} {mg : Str → Option Value} {base : Heap}
theorem ok_law (W : Ds K mg) (B : Tbs W base) (AD : AlkD K mg) {C fi cc cda : Addr} {fdi : FuncData} (R : ErrM8 P K mg C fi cc cda fdi) (bI : BindsI K fdi) : FnG P w K mg base (22) W.f_law W.fd_law P_law (sp_lawT K B.T) := by
  refine fnG_ok W.D_law.F sc_law (fun vs H Q E h => ?len) (fun cdv A outer s H vs Q E nr hr h => ?body)
  case len =>
    obtain ⟨a, ns, rfl, _⟩ := h
    rfl
  case body =>
    obtain ⟨a, ns, rfl, hS, hn, tb, k⟩ := h
    have nd := sc_law.nd
    have hu := hu_of hr
    have hu64 := hr.units
    have hu65 := hu65_of hr
    refine ⟨_, (pss_cons (ps_set (i := 1) nd rfl (by first | exact Or.inl rfl | exact Or.inr rfl) (pe_call (ok__law_open_cells W) (hr.mono (by first | decide | omega)) rfl W.D__law_open_cells.g W.D__law_open_cells.F.kp W.D__law_open_cells.b .nil pass0 (pa_cons (pv 0) pa_nil)))
  (pss_cons (ps_for PassesOwn.never rfl (pi_range1 rfl W.T.b_range (pa_cons pe_int pa_nil)) (pg_name (i := 2) nd rfl (by first | exact Or.inl rfl | exact Or.inr rfl))
     (Evl.pss_cut (ps_set (i := 3) nd rfl (by first | exact Or.inl rfl | exact Or.inr rfl) (pe_call (ok__law_draw_points W) (hr.mono (by first | decide | omega)) rfl W.D__law_draw_points.g W.D__law_draw_points.F.kp W.D__law_draw_points.b .nil pass0 (pa_cons (pv 1) (pa_cons (pe_op op_add pe_int (pe_call (ok__law_pick W) (hr.mono (by first | decide | omega)) rfl W.D__law_pick.g W.D__law_pick.F.kp W.D__law_pick.b .nil pass0 (pa_cons (pv 1) (pa_cons pe_int pa_nil)))) pa_nil))))
      (Evl.pss_cut (ps_par (i := 4) (j := 5) rfl nd rfl rfl (by decide) rfl rfl (pa_cons (peG_call (okValue W B 3) nr (hr.mono (by first | decide | omega)) rfl W.D__law_draw_value.g W.D__law_draw_value.F.kp W.D__law_draw_value.b (pa_cons (pv 1) (pa_cons (pv 3) (pa_cons pe_int pa_nil)))) (pa_cons (peG_call (okValue W B 3) nr (hr.mono (by first | decide | omega)) rfl W.D__law_draw_value.g W.D__law_draw_value.F.kp W.D__law_draw_value.b (pa_cons (pv 1) (pa_cons (pv 3) (pa_cons pe_int pa_nil)))) pa_nil)) (by rfl))
      (Evl.pss_cut (ps_set (i := 6) nd rfl (by first | exact Or.inl rfl | exact Or.inr rfl) (pe_call (ok__law_support W 3) (hr.mono (by first | decide | omega)) rfl W.D__law_support.g W.D__law_support.F.kp W.D__law_support.b .nil pass0 (pa_cons (pv 4) pa_nil)))
      (Evl.pss_cut (ps_set (i := 7) nd rfl (by first | exact Or.inl rfl | exact Or.inr rfl) (peG_call (ok__law_moved W B 3) nr (hr.mono (by first | decide | omega)) rfl W.D__law_moved.g W.D__law_moved.F.kp W.D__law_moved.b (pa_cons (pv 4) (pa_cons (pv 6) (pa_cons (pe_call (ok__law_draw_points W) (hr.mono (by first | decide | omega)) rfl W.D__law_draw_points.g W.D__law_draw_points.F.kp W.D__law_draw_points.b .nil pass0 (pa_cons (pv 1) (pa_cons (pe_callB (c_len K) (by rfl) W.T.b_len (by decide +kernel) (pa_cons (pv 6) pa_nil)) pa_nil))) pa_nil)))))
      (Evl.pss_cut (ps_setLc (i := 9) (own := [("point", 8)]) rfl nd rfl rfl (sw_true rfl rfl rfl (by decide +kernel)) (i_list K (pv 3)) (blkOk_by (N := N_law) (sc := defScope s_law) (by decide +kernel)) (fun _ _ _ _ _ => (pg_name (i := 8) nd rfl (by first | exact Or.inl rfl | exact Or.inr rfl))) (fun _ _ _ _ _ => (pts_one (pt_cmpR op_eq (pe_call (ok__law_pick W) (hr.mono (by first | decide | omega)) rfl W.D__law_pick.g W.D__law_pick.F.kp W.D__law_pick.b .nil pass0 (pa_cons (pv 1) (pa_cons pe_int pa_nil))) pe_int (nomark _)))) (fun _ _ _ _ _ => (pv 8)))
      (Evl.pss_cut (ps_set (i := 10) nd rfl (by first | exact Or.inl rfl | exact Or.inr rfl) (peG_call (ok__law_placed W B 3) nr (hr.mono (by first | decide | omega)) rfl W.D__law_placed.g W.D__law_placed.F.kp W.D__law_placed.b (pa_cons (pv 4) (pa_cons (pv 9) pa_nil))))
      (Evl.pss_cut (ps_for PassesOwn.never rfl (i_tup K (pe_tup (pa_cons (pv 4) (pa_cons (pv 7) (pa_cons (pv 5) (pa_cons (pv 10) pa_nil)))))) (pg_name (i := 11) nd rfl (by first | exact Or.inl rfl | exact Or.inr rfl))
         (Evl.pss_cut (ps_for PassesOwn.never rfl (i_tup K (pe_tup (pa_cons (pe_lst pa_nil) (pa_cons (pv 9) pa_nil)))) (pg_name (i := 12) nd rfl (by first | exact Or.inl rfl | exact Or.inr rfl))
             (Evl.pss_cut (ps_set (i := 13) nd rfl (by first | exact Or.inl rfl | exact Or.inr rfl) (peG_call (ok__law_due W B 3) nr (hr.mono (by first | decide | omega)) rfl W.D__law_due.g W.D__law_due.F.kp W.D__law_due.b (pa_cons (pv 4) (pa_cons (pv 11) (pa_cons (pv 12) pa_nil)))))
              (pss_cons (ps_if (pt_cmpR op_ne (pe_callB (c_repr K hu65 nr) (by rfl) W.T.b_repr (by decide +kernel) (pa_cons (peG_callN (ok_alike_moves W B 3 AD) nr (hr.mono (by first | decide | omega)) rfl AD.g AD.F.kp AD.kb (pa_cons (pv 4) (pa_cons (pv 11) pa_nil)) (pk_cons (pe_callTy (c_tuple K) (by rfl) W.T.b_tuple (by decide +kernel) (pa_cons (pv 12) pa_nil)) pk_nil)) pa_nil)) (pe_callB (c_repr K hu65 nr) (by rfl) W.T.b_repr (by decide +kernel) (pa_cons (pv 13) pa_nil)) (nomark _))
                 (pss_one (ps_ret pe_bl))
                 pss_nil)
              (pss_cons (ps_if (pt_cmpR op_ne (peG_call (ok_are_alike W B 3) nr (hr.mono (by first | decide | omega)) rfl W.D_are_alike.g W.D_are_alike.F.kp W.D_are_alike.b (pa_cons (pe_callTy (c_tuple K) (by rfl) W.T.b_tuple (by decide +kernel) (pa_cons (pv 12) pa_nil)) (pa_cons (pv 4) (pa_cons (pv 11) pa_nil)))) (pe_cmpR op_notN (pv 13) pe_non (nomark _)) (nomark _))
                 (pss_one (ps_ret pe_bl))
                 pss_nil)
              (pss_one (ps_if (PW.pt (pw_and (pt_cmpR op_notN (pv 13) pe_non (nomark _)) (pw_and1 (pt_cmpR (k_neD K hu64) (peGX_call (ok_moved W B 3 R bI) nr (hr.mono (by first | decide | omega)) rfl W.D_moved.g W.D_moved.F.kp W.D_moved.b (pa_cons (pv 4) (pa_cons (pv 13) pa_nil))) (pv 11) (nomark _)))))
                 (pss_one (ps_ret pe_bl))
                 pss_nil))))))
          (pss_one (ps_if (pt_cmpR op_ne (pe_callB (c_repr K hu65 nr) (by rfl) W.T.b_repr (by decide +kernel) (pa_cons (peG_callD (ok_alike_moves W B 3 AD) nr (hr.mono (by first | decide | omega)) rfl AD.g AD.F.kp AD.b AD.dv (pa_cons (pv 4) (pa_cons (pv 11) pa_nil))) pa_nil)) (pe_callB (c_repr K hu65 nr) (by rfl) W.T.b_repr (by decide +kernel) (pa_cons (peG_call (ok__law_due W B 3) nr (hr.mono (by first | decide | omega)) rfl W.D__law_due.g W.D__law_due.F.kp W.D__law_due.b (pa_cons (pv 4) (pa_cons (pv 11) (pa_cons (pe_lst pa_nil) pa_nil)))) pa_nil)) (nomark _))
             (pss_one (ps_ret pe_bl))
             pss_nil))))
      (pss_cons (ps_if (pt_val (pe_callB (c_any K rfl) (by rfl) W.T.b_any (by decide +kernel) (pa_cons (pe_lc (own := [("pair", 14)]) rfl nd (i_tup K (peG_callD (ok_alike_moves W B 3 AD) nr (hr.mono (by first | decide | omega)) rfl AD.g AD.F.kp AD.b AD.dv (pa_cons (pv 4) (pa_cons (pv 4) pa_nil)))) (blkOk_by (N := N_law) (sc := defScope s_law) (by decide +kernel)) (fun _ _ _ _ _ => (pg_name (i := 14) nd rfl (by first | exact Or.inl rfl | exact Or.inr rfl))) (fun _ _ _ _ _ => pts_nil) (fun _ _ _ _ _ => (pe_cmpR (k_neD K hu64) (pe_ix (k_ixT K) (pv 14) pe_int (fun _ _ => rfl)) (pe_ix (k_ixT K) (pv 14) pe_int (fun _ _ => rfl)) (nomark _)))) pa_nil)))
         (pss_one (ps_ret pe_bl))
         pss_nil)
      (pss_one (ps_if (PW.pt (pw_or (pt_cmpR op_isN (peG_callN (ok_alike_moves W B 3 AD) nr (hr.mono (by first | decide | omega)) rfl AD.g AD.F.kp AD.kb (pa_cons (pv 4) (pa_cons (pv 10) pa_nil)) (pk_cons (pe_callTy (c_tuple K) (by rfl) W.T.b_tuple (by decide +kernel) (pa_cons (pv 9) pa_nil)) pk_nil)) pe_non (nomark _)) (pw_or1 (pt_cmpR op_isN (peG_callD (ok_alike_moves W B 3 AD) nr (hr.mono (by first | decide | omega)) rfl AD.g AD.F.kp AD.b AD.dv (pa_cons (pv 4) (pa_cons (pv 7) pa_nil))) pe_non (nomark _)))))
         (pss_one (ps_ret pe_bl))
         pss_nil)))))))))))
  (pss_one (ps_ret pe_bl)))), ?_⟩
    simp only [tSeq, tIfS, tNext, tRet, tRetN, tAsg, tDrop, tPar, tCons, tNil, tCB, tVar, tC, tOp, rI, rI0, rU, tTest, tB, tTup, tLst, gName, tIf, tAnd, tOr, tNot, tAndV, tOrV, tNotV, tUn, tCall, tChain, tSl, tNoPart, tPart, tBM, tBM0, tDGet, sDPut, tAugS, ipI, tAug, rIxT, rIxL, rMulK, rLenK, rLstK, tTruK, gTup, gCons, gNil, rEq, rNe, scal, tNever, rMulK, rGcd, L2.start, List.map, List.length, List.replicate, List.cons_append, List.nil_append, List.append_nil, List.set, List.set_cons_zero, List.set_cons_succ, List.getElem?_cons_succ, List.getElem?_cons_zero, Option.some.injEq, List.cons.injEq, V.int.injEq, V.str.injEq, V.bl.injEq, V.ref.injEq, and_true, true_and, exists_eq_left, exists_eq_left', exists_eq_right, exists_eq_right', exists_eq, exists_and_left, exists_and_right, and_assoc, exists_false, false_and, and_false, or_false, false_or, reduceCtorEq, Nat.reduceAdd, Nat.reduceSub, List.append_assoc, eq_self, if_true, if_false, Bool.false_eq_true, decide_eq_true_eq, List.length_cons, List.length_nil, L2.tCallN]
    have szL := sizeLine_eq
    refine ⟨a, ns, rfl, hS, hn, fun d c H1 k1 _ _ S1' ndc => ?_⟩
    have tb1 := tabs_kp tb k1
    refine tforR ?_
    simp only [tSeq, tIfS, tNext, tRet, tRetN, tAsg, tDrop, tPar, tCons, tNil, tCB, tVar, tC, tOp, rI, rI0, rU, tTest, tB, tTup, tLst, gName, tIf, tAnd, tOr, tNot, tAndV, tOrV, tNotV, tUn, tCall, tChain, tSl, tNoPart, tPart, tBM, tBM0, tDGet, sDPut, tAugS, ipI, tAug, rIxT, rIxL, rMulK, rLenK, rLstK, tTruK, gTup, gCons, gNil, rEq, rNe, scal, tNever, rMulK, rGcd, L2.start, List.map, List.length, List.replicate, List.cons_append, List.nil_append, List.append_nil, List.set, List.set_cons_zero, List.set_cons_succ, List.getElem?_cons_succ, List.getElem?_cons_zero, Option.some.injEq, List.cons.injEq, V.int.injEq, V.str.injEq, V.bl.injEq, V.ref.injEq, and_true, true_and, exists_eq_left, exists_eq_left', exists_eq_right, exists_eq_right', exists_eq, exists_and_left, exists_and_right, and_assoc, exists_false, false_and, and_false, or_false, false_or, reduceCtorEq, Nat.reduceAdd, Nat.reduceSub, List.append_assoc, eq_self, if_true, if_false, Bool.false_eq_true, decide_eq_true_eq, List.length_cons, List.length_nil, L2.tCallN]
    refine ⟨_, rfl, by omega, by omega, ?_⟩
    rw [show Int.toNat 8 = 8 from rfl]
    refine for_range (n := 8) (lo := 0) (T0 K B.T a d c) ⟨_, _, _, _, _, _, _, _, _, _, _, _, _, rfl, S1', tb1⟩ ?_ ?_
    · clear tb1 S1' k1 tb
      rintro i σ H2 hi ⟨w2, w3, w4, w5, w6, w7, w8, w9, w10, w11, w12, w13, w14, rfl, dr⟩
      simp only [tSeq, tIfS, tNext, tRet, tRetN, tAsg, tDrop, tPar, tCons, tNil, tCB, tVar, tC, tOp, rI, rI0, rU, tTest, tB, tTup, tLst, gName, tIf, tAnd, tOr, tNot, tAndV, tOrV, tNotV, tUn, tCall, tChain, tSl, tNoPart, tPart, tBM, tBM0, tDGet, sDPut, tAugS, ipI, tAug, rIxT, rIxL, rMulK, rLenK, rLstK, tTruK, gTup, gCons, gNil, rEq, rNe, scal, tNever, rMulK, rGcd, L2.start, List.map, List.length, List.replicate, List.cons_append, List.nil_append, List.append_nil, List.set, List.set_cons_zero, List.set_cons_succ, List.getElem?_cons_succ, List.getElem?_cons_zero, Option.some.injEq, List.cons.injEq, V.int.injEq, V.str.injEq, V.bl.injEq, V.ref.injEq, and_true, true_and, exists_eq_left, exists_eq_left', exists_eq_right, exists_eq_right', exists_eq, exists_and_left, exists_and_right, and_assoc, exists_false, false_and, and_false, or_false, false_or, reduceCtorEq, Nat.reduceAdd, Nat.reduceSub, List.append_assoc, eq_self, if_true, if_false, Bool.false_eq_true, decide_eq_true_eq, List.length_cons, List.length_nil, L2.tCallN]
      -- the pool
      refine ⟨T1 K B.T a d c, ?_, ?_⟩
      · simp only [tSeq, tIfS, tNext, tRet, tRetN, tAsg, tDrop, tPar, tCons, tNil, tCB, tVar, tC, tOp, rI, rI0, rU, tTest, tB, tTup, tLst, gName, tIf, tAnd, tOr, tNot, tAndV, tOrV, tNotV, tUn, tCall, tChain, tSl, tNoPart, tPart, tBM, tBM0, tDGet, sDPut, tAugS, ipI, tAug, rIxT, rIxL, rMulK, rLenK, rLstK, tTruK, gTup, gCons, gNil, rEq, rNe, scal, tNever, rMulK, rGcd, L2.start, List.map, List.length, List.replicate, List.cons_append, List.nil_append, List.append_nil, List.set, List.set_cons_zero, List.set_cons_succ, List.getElem?_cons_succ, List.getElem?_cons_zero, Option.some.injEq, List.cons.injEq, V.int.injEq, V.str.injEq, V.bl.injEq, V.ref.injEq, and_true, true_and, exists_eq_left, exists_eq_left', exists_eq_right, exists_eq_right', exists_eq, exists_and_left, exists_and_right, and_assoc, exists_false, false_and, and_false, or_false, false_or, reduceCtorEq, Nat.reduceAdd, Nat.reduceSub, List.append_assoc, eq_self, if_true, if_false, Bool.false_eq_true, decide_eq_true_eq, List.length_cons, List.length_nil, L2.tCallN]
        refine ⟨d, c, 4, rfl, dr.s, ndc, by decide, fun r H3 r0 r1 k3 S3 => ⟨r, rfl, ?_⟩⟩
        have dr3 := dr.pick k3 S3
        obtain ⟨m, rfl⟩ : ∃ m : Nat, r = m := ⟨r.toNat, by omega⟩
        rw [show (1 : Int) + (m : Nat) = ((1 + m : Nat) : Int) by omega]
        refine ⟨d, c, 1 + m, rfl, S3, ndc, by omega, fun pl H4 pw pool hpl k4 S4 hp4 dp4 op4 _ ln4 => ?_⟩
        exact ⟨_, _, _, _, _, _, _, _, _, _, _, _, pl, pw, pool, rfl, dr3.pick k4 S4, KpI.mk' S3 hpl hp4 dp4 op4 (by omega), by omega, by omega⟩
      clear dr H2
      rintro σ H2 ⟨w2, w4, w5, w6, w7, w8, w9, w10, w11, w12, w13, w14, pl, pw, pool, rfl, I⟩
      -- two values
      refine ⟨T2 K B.T a d c pl pw pool, ?_, ?_⟩
      · simp only [tSeq, tIfS, tNext, tRet, tRetN, tAsg, tDrop, tPar, tCons, tNil, tCB, tVar, tC, tOp, rI, rI0, rU, tTest, tB, tTup, tLst, gName, tIf, tAnd, tOr, tNot, tAndV, tOrV, tNotV, tUn, tCall, tChain, tSl, tNoPart, tPart, tBM, tBM0, tDGet, sDPut, tAugS, ipI, tAug, rIxT, rIxL, rMulK, rLenK, rLstK, tTruK, gTup, gCons, gNil, rEq, rNe, scal, tNever, rMulK, rGcd, L2.start, List.map, List.length, List.replicate, List.cons_append, List.nil_append, List.append_nil, List.set, List.set_cons_zero, List.set_cons_succ, List.getElem?_cons_succ, List.getElem?_cons_zero, Option.some.injEq, List.cons.injEq, V.int.injEq, V.str.injEq, V.bl.injEq, V.ref.injEq, and_true, true_and, exists_eq_left, exists_eq_left', exists_eq_right, exists_eq_right', exists_eq, exists_and_left, exists_and_right, and_assoc, exists_false, false_and, and_false, or_false, false_or, reduceCtorEq, Nat.reduceAdd, Nat.reduceSub, List.append_assoc, eq_self, if_true, if_false, Bool.false_eq_true, decide_eq_true_eq, List.length_cons, List.length_nil, L2.tCallN]
        refine ⟨d, c, pl, pw, pool, rfl, I.dr, ndc, I.l.nd, I.l.nc, I.l.h, I.l.dp, I.l.ok, I.l0, I.l1, by omega, fun v H3 x k3 dr3 d3 o3 w3 => ?_⟩
        have I3 := I.kt k3 dr3
        refine ⟨d, c, pl, pw, pool, rfl, I3.dr, ndc, I3.l.nd, I3.l.nc, I3.l.h, I3.l.dp, I3.l.ok, I3.l0, I3.l1, by omega, fun o H4 y k4 dr4 d4 o4 w4 => ?_⟩
        exact ⟨_, _, _, _, _, _, _, _, _, _, v, o, x, y, rfl, I3.kt k4 dr4, ⟨dv_tk d3 (dr3.s.tkt k4), o3.1, o3.2, w3⟩, ⟨d4, o4.1, o4.2, w4⟩⟩
      clear I H2
      rintro σ H2 ⟨w2, w6, w7, w8, w9, w10, w11, w12, w13, w14, v, o, x, y, rfl, I, X, Y⟩
      have wx := X.w
      have sx := sup_ok X.o
      have lx := sup_len X.o
      -- the points of one
      refine ⟨T3 K B.T a d c pl pw pool v o x y, ?_, ?_⟩
      · simp only [tSeq, tIfS, tNext, tRet, tRetN, tAsg, tDrop, tPar, tCons, tNil, tCB, tVar, tC, tOp, rI, rI0, rU, tTest, tB, tTup, tLst, gName, tIf, tAnd, tOr, tNot, tAndV, tOrV, tNotV, tUn, tCall, tChain, tSl, tNoPart, tPart, tBM, tBM0, tDGet, sDPut, tAugS, ipI, tAug, rIxT, rIxL, rMulK, rLenK, rLstK, tTruK, gTup, gCons, gNil, rEq, rNe, scal, tNever, rMulK, rGcd, L2.start, List.map, List.length, List.replicate, List.cons_append, List.nil_append, List.append_nil, List.set, List.set_cons_zero, List.set_cons_succ, List.getElem?_cons_succ, List.getElem?_cons_zero, Option.some.injEq, List.cons.injEq, V.int.injEq, V.str.injEq, V.bl.injEq, V.ref.injEq, and_true, true_and, exists_eq_left, exists_eq_left', exists_eq_right, exists_eq_right', exists_eq, exists_and_left, exists_and_right, and_assoc, exists_false, false_and, and_false, or_false, false_or, reduceCtorEq, Nat.reduceAdd, Nat.reduceSub, List.append_assoc, eq_self, if_true, if_false, Bool.false_eq_true, decide_eq_true_eq, List.length_cons, List.length_nil, L2.tCallN]
        refine ⟨v, x, 100, rfl, X.d, X.o, by omega, by omega, fun D H3 us hD k3 hd3 da3 => ?_⟩
        have tk := Tk.of0 k3
        exact ⟨_, _, _, _, _, _, _, _, _, D, us, rfl, I.kt (Kt.of0 k3) (I.dr.kp k3), X.tk tk, Y.tk tk, KpI.mk' I.dr.s hD hd3 da3 sx (by omega)⟩
      clear I X Y H2
      rintro σ H2 ⟨w2, w7, w8, w9, w10, w11, w12, w13, w14, oa, ow, rfl, I, X, Y, O⟩
      -- led
      refine ⟨T4 K B.T a d c pl pw pool v o x y, ?_, ?_⟩
      · simp only [tSeq, tIfS, tNext, tRet, tRetN, tAsg, tDrop, tPar, tCons, tNil, tCB, tVar, tC, tOp, rI, rI0, rU, tTest, tB, tTup, tLst, gName, tIf, tAnd, tOr, tNot, tAndV, tOrV, tNotV, tUn, tCall, tChain, tSl, tNoPart, tPart, tBM, tBM0, tDGet, sDPut, tAugS, ipI, tAug, rIxT, rIxL, rMulK, rLenK, rLstK, tTruK, gTup, gCons, gNil, rEq, rNe, scal, tNever, rMulK, rGcd, L2.start, List.map, List.length, List.replicate, List.cons_append, List.nil_append, List.append_nil, List.set, List.set_cons_zero, List.set_cons_succ, List.getElem?_cons_succ, List.getElem?_cons_zero, Option.some.injEq, List.cons.injEq, V.int.injEq, V.str.injEq, V.bl.injEq, V.ref.injEq, and_true, true_and, exists_eq_left, exists_eq_left', exists_eq_right, exists_eq_right', exists_eq, exists_and_left, exists_and_right, and_assoc, exists_false, false_and, and_false, or_false, false_or, reduceCtorEq, Nat.reduceAdd, Nat.reduceSub, List.append_assoc, eq_self, if_true, if_false, Bool.false_eq_true, decide_eq_true_eq, List.length_cons, List.length_nil, L2.tCallN]
        have ol := O.wl
        refine ⟨ow, Or.inl (sqL_mk O.h), d, c, ow.length, rfl, I.dr.s, ndc, by omega, fun D H3 us news hD k3 S3 hd3 da3 on _ ln => ?_⟩
        have k3' : Kt (Mdc d c) _ _ := Kt.of k3
        have tk3 := I.dr.s.tkt k3'
        have I3 := I.kt k3' (I.dr.pick k3 S3)
        have O3 := O.kt I.dr.s k3'
        have X3 := X.tk tk3
        have len : (supV x).length = news.length := by omega
        refine ⟨v, oa, D, x, ow, us, supV x, news, 100, 100, rfl, X3.d, X3.o, gR.2.2.1, by omega, O3.h, hd3, O3.dp, da3, sx.mono (by omega), on, gR.2.2.1, len, by omega, fun p hp => hp, I3.dr.t, fun l H4 k4 t4 d4 => ?_⟩
        have mo := moved_ok X.o sx on len (fun p hp => hp) (by omega)
        have M : MvOk 100 100 (supV x) news := ⟨sx, on, len⟩
        exact ⟨_, _, _, _, _, _, _, _, _, l, _, rfl, I3.kt k4.up (I3.dr.kt k4 t4), X3.tk k4.tk0, Y.tk (tk3.trans k4.tk0), ⟨d4, mo.1, nf_moved X.o M (fun p hp => hp) (by omega), by omega⟩, alike_led X.o M (fun p hp => hp) (by omega)⟩
      clear I X Y O H2
      rintro σ H2 ⟨w2, w6, w8, w9, w10, w11, w12, w13, w14, l, z, rfl, I, X, Y, Z, led⟩
      -- the points that are kept
      refine ⟨T5 K B.T a d c v o l x y z, ?_, ?_⟩
      · refine tlcL ?_
        simp only [tSeq, tIfS, tNext, tRet, tRetN, tAsg, tDrop, tPar, tCons, tNil, tCB, tVar, tC, tOp, rI, rI0, rU, tTest, tB, tTup, tLst, gName, tIf, tAnd, tOr, tNot, tAndV, tOrV, tNotV, tUn, tCall, tChain, tSl, tNoPart, tPart, tBM, tBM0, tDGet, sDPut, tAugS, ipI, tAug, rIxT, rIxL, rMulK, rLenK, rLstK, tTruK, gTup, gCons, gNil, rEq, rNe, scal, tNever, rMulK, rGcd, L2.start, List.map, List.length, List.replicate, List.cons_append, List.nil_append, List.append_nil, List.set, List.set_cons_zero, List.set_cons_succ, List.getElem?_cons_succ, List.getElem?_cons_zero, Option.some.injEq, List.cons.injEq, V.int.injEq, V.str.injEq, V.bl.injEq, V.ref.injEq, and_true, true_and, exists_eq_left, exists_eq_left', exists_eq_right, exists_eq_right', exists_eq, exists_and_left, exists_and_right, and_assoc, exists_false, false_and, and_false, or_false, false_or, reduceCtorEq, Nat.reduceAdd, Nat.reduceSub, List.append_assoc, eq_self, if_true, if_false, Bool.false_eq_true, decide_eq_true_eq, List.length_cons, List.length_nil, L2.tCallN]
        refine lcLs pool I.dr I.l.h I.l.nd I.l.nc I.l.dp (by have := I.l1; omega) (fun u H3 k3 dr3 Q' q => ?_) (fun u H3 Q' q => ⟨u, rfl, q⟩) fun D H3 us kept hD k3 dr3 hd3 da3 sb => ?_
        · simp only [tSeq, tIfS, tNext, tRet, tRetN, tAsg, tDrop, tPar, tCons, tNil, tCB, tVar, tC, tOp, rI, rI0, rU, tTest, tB, tTup, tLst, gName, tIf, tAnd, tOr, tNot, tAndV, tOrV, tNotV, tUn, tCall, tChain, tSl, tNoPart, tPart, tBM, tBM0, tDGet, sDPut, tAugS, ipI, tAug, rIxT, rIxL, rMulK, rLenK, rLstK, tTruK, gTup, gCons, gNil, rEq, rNe, scal, tNever, rMulK, rGcd, L2.start, List.map, List.length, List.replicate, List.cons_append, List.nil_append, List.append_nil, List.set, List.set_cons_zero, List.set_cons_succ, List.getElem?_cons_succ, List.getElem?_cons_zero, Option.some.injEq, List.cons.injEq, V.int.injEq, V.str.injEq, V.bl.injEq, V.ref.injEq, and_true, true_and, exists_eq_left, exists_eq_left', exists_eq_right, exists_eq_right', exists_eq, exists_and_left, exists_and_right, and_assoc, exists_false, false_and, and_false, or_false, false_or, reduceCtorEq, Nat.reduceAdd, Nat.reduceSub, List.append_assoc, eq_self, if_true, if_false, Bool.false_eq_true, decide_eq_true_eq, List.length_cons, List.length_nil, L2.tCallN]
          exact ⟨d, c, 2, rfl, dr3.s, ndc, by decide, fun r H4 r0 r1 k4 S4 => ⟨rfl, q _ _ (Kt.of k4) (dr3.pick k4 S4)⟩⟩
        · have tk3 := I.dr.s.tkt k3
          have ln := sb.length_le
          have l1 := I.l1
          exact ⟨_, _, _, _, _, _, _, _, _, D, us, kept, rfl, dr3, KpI.mk' I.dr.s hD hd3 da3 (I.l.ok.sub sb) (by omega), X.tk tk3, Y.tk tk3, Z.tk tk3⟩
      clear I X Y Z H2
      rintro σ H2 ⟨w2, w3, w6, w8, w10, w11, w12, w13, w14, kp, kw, kept, rfl, dr, S, X, Y, Z⟩
      -- near
      refine ⟨T6 K B.T a d c kp kw kept v o l x y z, ?_, ?_⟩
      · simp only [tSeq, tIfS, tNext, tRet, tRetN, tAsg, tDrop, tPar, tCons, tNil, tCB, tVar, tC, tOp, rI, rI0, rU, tTest, tB, tTup, tLst, gName, tIf, tAnd, tOr, tNot, tAndV, tOrV, tNotV, tUn, tCall, tChain, tSl, tNoPart, tPart, tBM, tBM0, tDGet, sDPut, tAugS, ipI, tAug, rIxT, rIxL, rMulK, rLenK, rLstK, tTruK, gTup, gCons, gNil, rEq, rNe, scal, tNever, rMulK, rGcd, L2.start, List.map, List.length, List.replicate, List.cons_append, List.nil_append, List.append_nil, List.set, List.set_cons_zero, List.set_cons_succ, List.getElem?_cons_succ, List.getElem?_cons_zero, Option.some.injEq, List.cons.injEq, V.int.injEq, V.str.injEq, V.bl.injEq, V.ref.injEq, and_true, true_and, exists_eq_left, exists_eq_left', exists_eq_right, exists_eq_right', exists_eq, exists_and_left, exists_and_right, and_assoc, exists_false, false_and, and_false, or_false, false_or, reduceCtorEq, Nat.reduceAdd, Nat.reduceSub, List.append_assoc, eq_self, if_true, if_false, Bool.false_eq_true, decide_eq_true_eq, List.length_cons, List.length_nil, L2.tCallN]
        have ln := S.len
        refine ⟨v, kp, x, kw, kept, 100, 100, rfl, X.d, X.o, gR.2.2.1, by omega, S.h, S.dp, S.ok, gR.2.1, by omega, dr.t, fun n H3 k3 t3 d3 => ?_⟩
        obtain ⟨po, pw'⟩ := placed_ok (points := kept) X.o S.ok (by omega)
        exact ⟨_, _, _, _, _, _, _, _, n, rfl, dr.kt k3 t3, S.kt dr.s k3.up, X.tk k3.tk0, Y.tk k3.tk0, Z.tk k3.tk0, ⟨d3, po, nf_placed X.o S.ok (by omega), by omega⟩, led⟩
      clear dr S X Y Z H2
      rintro σ H2 ⟨w2, w3, w6, w8, w11, w12, w13, w14, n, rfl, I⟩
      -- each with each
      refine ⟨T7 K B.T a d c kp kw kept v o l n x y z, ?_, ?_⟩
      · refine tforT ?_
        simp only [tSeq, tIfS, tNext, tRet, tRetN, tAsg, tDrop, tPar, tCons, tNil, tCB, tVar, tC, tOp, rI, rI0, rU, tTest, tB, tTup, tLst, gName, tIf, tAnd, tOr, tNot, tAndV, tOrV, tNotV, tUn, tCall, tChain, tSl, tNoPart, tPart, tBM, tBM0, tDGet, sDPut, tAugS, ipI, tAug, rIxT, rIxL, rMulK, rLenK, rLstK, tTruK, gTup, gCons, gNil, rEq, rNe, scal, tNever, rMulK, rGcd, L2.start, List.map, List.length, List.replicate, List.cons_append, List.nil_append, List.append_nil, List.set, List.set_cons_zero, List.set_cons_succ, List.getElem?_cons_succ, List.getElem?_cons_zero, Option.some.injEq, List.cons.injEq, V.int.injEq, V.str.injEq, V.bl.injEq, V.ref.injEq, and_true, true_and, exists_eq_left, exists_eq_left', exists_eq_right, exists_eq_right', exists_eq, exists_and_left, exists_and_right, and_assoc, exists_false, false_and, and_false, or_false, false_or, reduceCtorEq, Nat.reduceAdd, Nat.reduceSub, List.append_assoc, eq_self, if_true, if_false, Bool.false_eq_true, decide_eq_true_eq, List.length_cons, List.length_nil, L2.tCallN]
        refine ⟨by omega, fun tp htp => ?_⟩
        have I3 := I.up (Kp.new (o := .tup [v, l, o, n]) htp)
        refine ⟨tp, rfl, ⟨_, sqT_mk upd_same⟩, ?_⟩
        refine for_tup (K := K) (a := tp) (xs := [v, l, o, n]) (T8 K B.T a d c kp kw kept v o l n x y z tp) ⟨_, _, _, _, _, _, _, _, rfl, I3, upd_same⟩ (fun i σ H' _ h => ?_) ?_ ?_
        · obtain ⟨_, _, _, _, _, _, _, _, _, _, h'⟩ := h
          exact sqT_mk h'
        · clear I I3 htp H2
          rintro j u σ H2 hj ⟨w2, w3, w6, w8, w11, w12, w13, w14, rfl, I, ht⟩
          simp only [tSeq, tIfS, tNext, tRet, tRetN, tAsg, tDrop, tPar, tCons, tNil, tCB, tVar, tC, tOp, rI, rI0, rU, tTest, tB, tTup, tLst, gName, tIf, tAnd, tOr, tNot, tAndV, tOrV, tNotV, tUn, tCall, tChain, tSl, tNoPart, tPart, tBM, tBM0, tDGet, sDPut, tAugS, ipI, tAug, rIxT, rIxL, rMulK, rLenK, rLstK, tTruK, gTup, gCons, gNil, rEq, rNe, scal, tNever, rMulK, rGcd, L2.start, List.map, List.length, List.replicate, List.cons_append, List.nil_append, List.append_nil, List.set, List.set_cons_zero, List.set_cons_succ, List.getElem?_cons_succ, List.getElem?_cons_zero, Option.some.injEq, List.cons.injEq, V.int.injEq, V.str.injEq, V.bl.injEq, V.ref.injEq, and_true, true_and, exists_eq_left, exists_eq_left', exists_eq_right, exists_eq_right', exists_eq, exists_and_left, exists_and_right, and_assoc, exists_false, false_and, and_false, or_false, false_or, reduceCtorEq, Nat.reduceAdd, Nat.reduceSub, List.append_assoc, eq_self, if_true, if_false, Bool.false_eq_true, decide_eq_true_eq, List.length_cons, List.length_nil, L2.tCallN]
          obtain ⟨zz, U⟩ : ∃ zz, VlI K 212 u zz H2 := by
            have : j = 0 ∨ j = 1 ∨ j = 2 ∨ j = 3 := by
              have := (List.getElem?_eq_some_iff.mp hj).1
              simp at this; omega
            rcases this with rfl | rfl | rfl | rfl
            · cases hj; exact ⟨_, I.v'.up (by omega)⟩
            · cases hj; exact ⟨_, I.l'.up (by omega)⟩
            · cases hj; exact ⟨_, I.o'.up (by omega)⟩
            · cases hj; exact ⟨_, I.n'⟩
          have J : EI K B.T d c kp kw kept v o l n x y z tp u zz H2 := ⟨I, ht, U⟩
          refine ⟨T9 K B.T a d c kp kw kept v o l n x y z tp u zz, ?_, ?_⟩
          · refine tforT ?_
            simp only [tSeq, tIfS, tNext, tRet, tRetN, tAsg, tDrop, tPar, tCons, tNil, tCB, tVar, tC, tOp, rI, rI0, rU, tTest, tB, tTup, tLst, gName, tIf, tAnd, tOr, tNot, tAndV, tOrV, tNotV, tUn, tCall, tChain, tSl, tNoPart, tPart, tBM, tBM0, tDGet, sDPut, tAugS, ipI, tAug, rIxT, rIxL, rMulK, rLenK, rLstK, tTruK, gTup, gCons, gNil, rEq, rNe, scal, tNever, rMulK, rGcd, L2.start, List.map, List.length, List.replicate, List.cons_append, List.nil_append, List.append_nil, List.set, List.set_cons_zero, List.set_cons_succ, List.getElem?_cons_succ, List.getElem?_cons_zero, Option.some.injEq, List.cons.injEq, V.int.injEq, V.str.injEq, V.bl.injEq, V.ref.injEq, and_true, true_and, exists_eq_left, exists_eq_left', exists_eq_right, exists_eq_right', exists_eq, exists_and_left, exists_and_right, and_assoc, exists_false, false_and, and_false, or_false, false_or, reduceCtorEq, Nat.reduceAdd, Nat.reduceSub, List.append_assoc, eq_self, if_true, if_false, Bool.false_eq_true, decide_eq_true_eq, List.length_cons, List.length_nil, L2.tCallN]
            refine ⟨by omega, fun el hel => ⟨by omega, fun tp2 htp2 => ?_⟩⟩
            have k34 := (Kp.new (M := M0) (o := .lst []) hel).trans (Kp.new (o := .tup [.ref el, .ref kp]) htp2)
            have J3 := J.up k34
            have hel3 := (Kp.new (M := M0) (o := .tup [.ref el, .ref kp]) htp2) _ _ (upd_same (a := el) (o := .lst [])) fun z => z
            have F3 : FI K B.T d c kp kw kept v o l n x y z tp u zz tp2 el _ := ⟨J3, upd_same, KpI.mk' I.dr.s hel hel3 .nil .nil (by simp)⟩
            refine ⟨tp2, rfl, ⟨_, sqT_mk upd_same⟩, ?_⟩
            refine for_tup (K := K) (a := tp2) (xs := [.ref el, .ref kp]) (T10 K B.T a d c kp kw kept v o l n x y z tp u zz tp2 el) ⟨_, _, _, _, _, _, _, rfl, F3⟩ (fun i σ H' _ h => ?_) ?_ ?_
            · obtain ⟨_, _, _, _, _, _, _, _, h'⟩ := h
              exact sqT_mk h'.h2
            · clear J3 F3 hel3 k34 htp2 hel J I U ht H2
              rintro j2 u2 σ H2 hj2 ⟨w2, w3, w6, w8, w12, w13, w14, rfl, I⟩
              simp only [tSeq, tIfS, tNext, tRet, tRetN, tAsg, tDrop, tPar, tCons, tNil, tCB, tVar, tC, tOp, rI, rI0, rU, tTest, tB, tTup, tLst, gName, tIf, tAnd, tOr, tNot, tAndV, tOrV, tNotV, tUn, tCall, tChain, tSl, tNoPart, tPart, tBM, tBM0, tDGet, sDPut, tAugS, ipI, tAug, rIxT, rIxL, rMulK, rLenK, rLstK, tTruK, gTup, gCons, gNil, rEq, rNe, scal, tNever, rMulK, rGcd, L2.start, List.map, List.length, List.replicate, List.cons_append, List.nil_append, List.append_nil, List.set, List.set_cons_zero, List.set_cons_succ, List.getElem?_cons_succ, List.getElem?_cons_zero, Option.some.injEq, List.cons.injEq, V.int.injEq, V.str.injEq, V.bl.injEq, V.ref.injEq, and_true, true_and, exists_eq_left, exists_eq_left', exists_eq_right, exists_eq_right', exists_eq, exists_and_left, exists_and_right, and_assoc, exists_false, false_and, and_false, or_false, false_or, reduceCtorEq, Nat.reduceAdd, Nat.reduceSub, List.append_assoc, eq_self, if_true, if_false, Bool.false_eq_true, decide_eq_true_eq, List.length_cons, List.length_nil, L2.tCallN]
              obtain ⟨pa, pw, pts, rfl, S⟩ : ∃ pa pw pts, u2 = .ref pa ∧ KpI K d c pa pw pts H2 := by
                have : j2 = 0 ∨ j2 = 1 := by
                  have := (List.getElem?_eq_some_iff.mp hj2).1
                  simp at this; omega
                rcases this with rfl | rfl
                · cases hj2; exact ⟨_, _, _, rfl, I.L⟩
                · cases hj2; exact ⟨_, _, _, rfl, I.e.q.kp'⟩
              refine ⟨T11 K B.T a d c kp kw kept v o l n x y z tp u zz tp2 el pa pw pts, ?_, ?_⟩
              · simp only [tSeq, tIfS, tNext, tRet, tRetN, tAsg, tDrop, tPar, tCons, tNil, tCB, tVar, tC, tOp, rI, rI0, rU, tTest, tB, tTup, tLst, gName, tIf, tAnd, tOr, tNot, tAndV, tOrV, tNotV, tUn, tCall, tChain, tSl, tNoPart, tPart, tBM, tBM0, tDGet, sDPut, tAugS, ipI, tAug, rIxT, rIxL, rMulK, rLenK, rLstK, tTruK, gTup, gCons, gNil, rEq, rNe, scal, tNever, rMulK, rGcd, L2.start, List.map, List.length, List.replicate, List.cons_append, List.nil_append, List.append_nil, List.set, List.set_cons_zero, List.set_cons_succ, List.getElem?_cons_succ, List.getElem?_cons_zero, Option.some.injEq, List.cons.injEq, V.int.injEq, V.str.injEq, V.bl.injEq, V.ref.injEq, and_true, true_and, exists_eq_left, exists_eq_left', exists_eq_right, exists_eq_right', exists_eq, exists_and_left, exists_and_right, and_assoc, exists_false, false_and, and_false, or_false, false_or, reduceCtorEq, Nat.reduceAdd, Nat.reduceSub, List.append_assoc, eq_self, if_true, if_false, Bool.false_eq_true, decide_eq_true_eq, List.length_cons, List.length_nil, L2.tCallN]
                refine due_go I.e.q.v' I.e.U S I.e.q.dr.t fun dv H3 k3 t3 D3 => ?_
                exact ⟨_, _, _, _, _, dv, rfl, I.k0 k3 t3, S.kt I.e.q.dr.s k3.up, D3⟩
              clear I S H2
              rintro σ H2 ⟨w2, w3, w6, w8, w14, dv, rfl, I, S, D⟩
              simp only [tSeq, tIfS, tNext, tRet, tRetN, tAsg, tDrop, tPar, tCons, tNil, tCB, tVar, tC, tOp, rI, rI0, rU, tTest, tB, tTup, tLst, gName, tIf, tAnd, tOr, tNot, tAndV, tOrV, tNotV, tUn, tCall, tChain, tSl, tNoPart, tPart, tBM, tBM0, tDGet, sDPut, tAugS, ipI, tAug, rIxT, rIxL, rMulK, rLenK, rLstK, tTruK, gTup, gCons, gNil, rEq, rNe, scal, tNever, rMulK, rGcd, L2.start, List.map, List.length, List.replicate, List.cons_append, List.nil_append, List.append_nil, List.set, List.set_cons_zero, List.set_cons_succ, List.getElem?_cons_succ, List.getElem?_cons_zero, Option.some.injEq, List.cons.injEq, V.int.injEq, V.str.injEq, V.bl.injEq, V.ref.injEq, and_true, true_and, exists_eq_left, exists_eq_left', exists_eq_right, exists_eq_right', exists_eq, exists_and_left, exists_and_right, and_assoc, exists_false, false_and, and_false, or_false, false_or, reduceCtorEq, Nat.reduceAdd, Nat.reduceSub, List.append_assoc, eq_self, if_true, if_false, Bool.false_eq_true, decide_eq_true_eq, List.length_cons, List.length_nil, L2.tCallN]
              refine ⟨pa, _, rfl, Or.inl ⟨sqL_mk S.h, fun t ht => ?_⟩⟩
              have kt := Kp.new (M := M0) (o := .tup pw) ht
              have It := I.up kt
              have St := S.kt I.e.q.dr.s (Kt.of kt).up
              have Dt := D.tk (Tk.new (o := .tup pw) ht)
              refine alk_go It.e.q.v' It.e.U (sqT_mk upd_same) St.dp St.ok St.len It.e.q.dr.t fun dv2 H3 k3 t3 D3 => ?_
              have I3 := It.k0 k3 t3
              have S3 := St.kt It.e.q.dr.s k3.up
              have E3 := Dt.tk k3.tk0
              refine repr_due I3.e.q.v' I3.e.U S.ok S.len D3 ?_
              refine repr_due I3.e.q.v' I3.e.U S.ok S.len E3 ⟨rfl, ?_⟩
              rw [if_neg (by simp)]
              have ok := S.ok
              have len := S.len
              clear D3 Dt St It kt k3 t3 I S D ht
              refine ⟨pa, _, rfl, Or.inl ⟨sqL_mk S3.h, fun t2 ht2 => ?_⟩⟩
              have kt2 := Kp.new (M := M0) (o := .tup pw) ht2
              have I4 := I3.up kt2
              have S4 := S3.kt I3.e.q.dr.s (Kt.of kt2).up
              refine like_go I4.e.q.v' I4.e.U (sqT_mk upd_same) S4.dp S4.ok S4.len I4.e.q.dr.t fun H5 k5 t5 => ⟨rfl, ?_⟩
              have I5 := I4.k0 k5 t5
              have E5 := (E3.tk (Tk.new (o := .tup pw) ht2)).tk k5.tk0
              rcases E5 with ⟨e, dm⟩ | ⟨e, rfl⟩
              · obtain ⟨m, ws, rfl, hm, dw⟩ := mv_of dm
                obtain ⟨M, l1, l2⟩ := on_sizes I5.e.q.v' I5.e.U ok len e
                rw [eqB_iff.mpr e, if_neg (by simp), if_pos (by simp)]
                have A := I5.e.q.v'
                have wa := A.w
                refine ⟨v, .ref m, x, onP pts x, onP pts zz, 100, 212, rfl, A.d, A.o, A.nf, gR.2.2.1, by omega, dm, M.mv.o.mono (by decide), M.mv.n.mono (by decide), gR.1, M.mv.l, by omega, I5.e.q.dr.t, fun _ y6 H6 k6 t6 d6 => ?_, fun no => absurd (fun p hp => (on_mem A.o ok (by omega) p).mpr (.inr hp)) no⟩
                rw [M.to] at d6
                have I6 := I5.k0 k6 t6
                refine neD d6.up I6.e.U.d.up (vl_shaped I6.e.U.o (by decide)) (vl_shaped I6.e.U.o (by decide)) (b := true) (eqB_self zz) ⟨_, rfl, ?_⟩
                rw [if_neg (by simp)]
                exact ⟨_, _, _, _, _, _, _, rfl, I6⟩
              · have en : eqB (placedV x pts) (placedV zz pts) = false := by
                  cases q : eqB (placedV x pts) (placedV zz pts) with
                  | false => rfl
                  | true => exact absurd (eqB_iff.mp q) e
                rw [en, if_neg (by simp), if_neg (by simp)]
                exact ⟨_, _, _, _, _, _, _, rfl, I5⟩
            · rintro σ H3 ⟨w2, w3, w6, w8, w12, w13, w14, rfl, I3⟩
              exact ⟨_, _, _, _, _, _, _, rfl, I3.e⟩
          clear J I U ht H2
          rintro σ H2 ⟨w2, w3, w6, w8, w12, w13, w14, rfl, I⟩
          simp only [tSeq, tIfS, tNext, tRet, tRetN, tAsg, tDrop, tPar, tCons, tNil, tCB, tVar, tC, tOp, rI, rI0, rU, tTest, tB, tTup, tLst, gName, tIf, tAnd, tOr, tNot, tAndV, tOrV, tNotV, tUn, tCall, tChain, tSl, tNoPart, tPart, tBM, tBM0, tDGet, sDPut, tAugS, ipI, tAug, rIxT, rIxL, rMulK, rLenK, rLstK, tTruK, gTup, gCons, gNil, rEq, rNe, scal, tNever, rMulK, rGcd, L2.start, List.map, List.length, List.replicate, List.cons_append, List.nil_append, List.append_nil, List.set, List.set_cons_zero, List.set_cons_succ, List.getElem?_cons_succ, List.getElem?_cons_zero, Option.some.injEq, List.cons.injEq, V.int.injEq, V.str.injEq, V.bl.injEq, V.ref.injEq, and_true, true_and, exists_eq_left, exists_eq_left', exists_eq_right, exists_eq_right', exists_eq, exists_and_left, exists_and_right, and_assoc, exists_false, false_and, and_false, or_false, false_or, reduceCtorEq, Nat.reduceAdd, Nat.reduceSub, List.append_assoc, eq_self, if_true, if_false, Bool.false_eq_true, decide_eq_true_eq, List.length_cons, List.length_nil, L2.tCallN]
          refine alk_go (pts := []) I.q.v' I.U (AD.dT H2) .nil .nil (by simp) I.q.dr.t fun dv H3 k3 t3 D3 => ?_
          have I3 := I.k0 k3 t3
          refine repr_due I3.q.v' I3.U .nil (by simp) D3 ⟨by omega, fun p hp => ?_⟩
          have kp4 := Kp.new (M := M0) (o := .lst []) hp
          have I4 := I3.up kp4
          have L : KpI K d c p [] [] (upd H3 p (.lst [])) := KpI.mk' I3.q.dr.s hp upd_same .nil .nil (by simp)
          refine due_go I4.q.v' I4.U L I4.q.dr.t fun dv2 H5 k5 t5 D5 => ?_
          have I5 := I4.k0 k5 t5
          refine repr_due I5.q.v' I5.U .nil (by simp) D5 ⟨rfl, ?_⟩
          rw [if_neg (by simp)]
          exact ⟨_, _, _, _, _, _, _, _, rfl, I5.q, I5.ht⟩
        · rintro σ H3 ⟨w2, w3, w6, w8, w11, w12, w13, w14, rfl, I3, _⟩
          exact ⟨_, _, _, _, _, _, _, _, rfl, I3⟩
      clear I H2
      rintro σ H2 ⟨w2, w3, w6, w8, w11, w12, w13, w14, rfl, I⟩
      simp only [tSeq, tIfS, tNext, tRet, tRetN, tAsg, tDrop, tPar, tCons, tNil, tCB, tVar, tC, tOp, rI, rI0, rU, tTest, tB, tTup, tLst, gName, tIf, tAnd, tOr, tNot, tAndV, tOrV, tNotV, tUn, tCall, tChain, tSl, tNoPart, tPart, tBM, tBM0, tDGet, sDPut, tAugS, ipI, tAug, rIxT, rIxL, rMulK, rLenK, rLstK, tTruK, gTup, gCons, gNil, rEq, rNe, scal, tNever, rMulK, rGcd, L2.start, List.map, List.length, List.replicate, List.cons_append, List.nil_append, List.append_nil, List.set, List.set_cons_zero, List.set_cons_succ, List.getElem?_cons_succ, List.getElem?_cons_zero, Option.some.injEq, List.cons.injEq, V.int.injEq, V.str.injEq, V.bl.injEq, V.ref.injEq, and_true, true_and, exists_eq_left, exists_eq_left', exists_eq_right, exists_eq_right', exists_eq, exists_and_left, exists_and_right, and_assoc, exists_false, false_and, and_false, or_false, false_or, reduceCtorEq, Nat.reduceAdd, Nat.reduceSub, List.append_assoc, eq_self, if_true, if_false, Bool.false_eq_true, decide_eq_true_eq, List.length_cons, List.length_nil, L2.tCallN]
      have VX := I.v'
      have wv := VX.w
      have l0 : (onP [] x).length ≤ 512 := (on_sizes VX (VX.up (by omega)) .nil (by simp) rfl).2.1
      -- no point is led elsewhere
      refine tlcT ?_
      simp only [tSeq, tIfS, tNext, tRet, tRetN, tAsg, tDrop, tPar, tCons, tNil, tCB, tVar, tC, tOp, rI, rI0, rU, tTest, tB, tTup, tLst, gName, tIf, tAnd, tOr, tNot, tAndV, tOrV, tNotV, tUn, tCall, tChain, tSl, tNoPart, tPart, tBM, tBM0, tDGet, sDPut, tAugS, ipI, tAug, rIxT, rIxL, rMulK, rLenK, rLstK, tTruK, gTup, gCons, gNil, rEq, rNe, scal, tNever, rMulK, rGcd, L2.start, List.map, List.length, List.replicate, List.cons_append, List.nil_append, List.append_nil, List.set, List.set_cons_zero, List.set_cons_succ, List.getElem?_cons_succ, List.getElem?_cons_zero, Option.some.injEq, List.cons.injEq, V.int.injEq, V.str.injEq, V.bl.injEq, V.ref.injEq, and_true, true_and, exists_eq_left, exists_eq_left', exists_eq_right, exists_eq_right', exists_eq, exists_and_left, exists_and_right, and_assoc, exists_false, false_and, and_false, or_false, false_or, reduceCtorEq, Nat.reduceAdd, Nat.reduceSub, List.append_assoc, eq_self, if_true, if_false, Bool.false_eq_true, decide_eq_true_eq, List.length_cons, List.length_nil, L2.tCallN]
      refine alk_go (pts := []) VX (VX.up (by omega)) (AD.dT H2) .nil .nil (by simp) I.dr.t fun dv H3 k3 t3 D3 => ?_
      have I3 := I.k0 k3 t3
      have D3 : Dp K H3 dv (mvD (onP [] x) (onP [] x)) := by
        rcases D3 with ⟨_, h⟩ | ⟨e, _⟩
        · exact h
        · exact absurd rfl e
      obtain ⟨m, ws, rfl, hm, dw⟩ := mv_of D3
      obtain ⟨N, hN⟩ : ∃ N, N = (onP [] x).length := ⟨_, rfl⟩
      refine lcTe kr0 (((onP [] x).zip (onP [] x)).map mpD) ((List.replicate N false).map PyData.bool) trivial (by rw [List.length_map, List.length_replicate, szL]; omega) (by rw [List.length_map, List.length_map, List.length_zip, List.length_replicate]; omega) (sqT_mk hm) dw (mps_tup _) (tup_bools _) (fun i z e2 u2 H4 e1 e3 du q4 _ Q' q => ?_) (fun D H4 vs4 hD q4 _ hd4 da4 => ?_)
      · rw [List.getElem?_map] at e1 e3
        have e4 : e2 = .bool false := by
          cases w2 : (List.replicate N false)[i]? with
          | none => rw [w2] at e3; cases e3
          | some t =>
            rw [w2] at e3
            cases e3
            rw [(List.mem_replicate.mp (List.mem_of_getElem? w2)).2]
        subst e4
        cases w1 : ((onP [] x).zip (onP [] x))[i]? with
        | none => rw [w1] at e1; cases e1
        | some p =>
          rw [w1] at e1
          cases e1
          obtain ⟨o1, o2⟩ := List.getElem?_zip_eq_some.mp w1
          have ep : p.1 = p.2 := Option.some.inj (o1.symm.trans o2)
          obtain ⟨b, u1, u3, rfl, hb, d1, d2⟩ := mp_of du
          simp only [tSeq, tIfS, tNext, tRet, tRetN, tAsg, tDrop, tPar, tCons, tNil, tCB, tVar, tC, tOp, rI, rI0, rU, tTest, tB, tTup, tLst, gName, tIf, tAnd, tOr, tNot, tAndV, tOrV, tNotV, tUn, tCall, tChain, tSl, tNoPart, tPart, tBM, tBM0, tDGet, sDPut, tAugS, ipI, tAug, rIxT, rIxL, rMulK, rLenK, rLstK, tTruK, gTup, gCons, gNil, rEq, rNe, scal, tNever, rMulK, rGcd, L2.start, List.map, List.length, List.replicate, List.cons_append, List.nil_append, List.append_nil, List.set, List.set_cons_zero, List.set_cons_succ, List.getElem?_cons_succ, List.getElem?_cons_zero, Option.some.injEq, List.cons.injEq, V.int.injEq, V.str.injEq, V.bl.injEq, V.ref.injEq, and_true, true_and, exists_eq_left, exists_eq_left', exists_eq_right, exists_eq_right', exists_eq, exists_and_left, exists_and_right, and_assoc, exists_false, false_and, and_false, or_false, false_or, reduceCtorEq, Nat.reduceAdd, Nat.reduceSub, List.append_assoc, eq_self, if_true, if_false, Bool.false_eq_true, decide_eq_true_eq, List.length_cons, List.length_nil, L2.tCallN]
          refine ⟨[u1, u3], sqT_mk hb, u1, rfl, [u1, u3], sqT_mk hb, u3, rfl, ?_⟩
          rw [ep] at d1
          refine neD d1.up d2.up (ptD_shaped _) (ptD_shaped _) (b := true) (by rw [ptD_eqv]; simp) ?_
          exact q _ _ (Kp.refl _) trivial (.bl _)
      · have b4 := dps_bools da4
        have I4 := I3.up q4
        have fa : (List.replicate N false).any id = false := by simp
        refine ⟨D, List.replicate N false, rfl, sqL_mk (by rw [hd4, b4]), _, rfl, ?_⟩
        rw [fa, if_neg (by simp)]
        clear D3 hm dw I3 da4 hd4
        -- near
        refine ⟨kp, _, rfl, Or.inl ⟨sqL_mk I4.kp'.h, fun t ht => ?_⟩⟩
        have I5 := I4.up (Kp.new (o := .tup kw) ht)
        have wok := I5.v'.o
        refine alk_go I5.v' I5.n' (sqT_mk upd_same) I5.kp'.dp I5.kp'.ok I5.kp'.len I5.dr.t fun dv H6 k6 t6 D6 => ?_
        have I6 := I5.k0 k6 t6
        have D6 : dv ≠ .non := by
          rcases D6 with ⟨_, h⟩ | ⟨e, _⟩
          · obtain ⟨_, _, rfl, _⟩ := mv_of h
            exact fun z => nomatch z
          · exact absurd (placed_twice wok I5.kp'.ok (by omega)).symm e
        rw [if_neg D6]
        refine alk_go (pts := []) I6.v' (I6.l'.up (by omega)) (AD.dT _) .nil .nil (by simp) I6.dr.t fun dv2 H7 k7 t7 D7 => ?_
        have I7 := I6.k0 k7 t7
        have D7 : dv2 ≠ .non := by
          rcases D7 with ⟨_, h⟩ | ⟨e, _⟩
          · obtain ⟨_, _, rfl, _⟩ := mv_of h
            exact fun z => nomatch z
          · exact absurd I7.led.symm e
        rw [if_neg D7]
        exact ⟨_, _, _, _, _, _, _, _, _, _, _, _, _, rfl, I7.dr⟩
    · rintro σ H2 _
      simp only [tSeq, tIfS, tNext, tRet, tRetN, tAsg, tDrop, tPar, tCons, tNil, tCB, tVar, tC, tOp, rI, rI0, rU, tTest, tB, tTup, tLst, gName, tIf, tAnd, tOr, tNot, tAndV, tOrV, tNotV, tUn, tCall, tChain, tSl, tNoPart, tPart, tBM, tBM0, tDGet, sDPut, tAugS, ipI, tAug, rIxT, rIxL, rMulK, rLenK, rLstK, tTruK, gTup, gCons, gNil, rEq, rNe, scal, tNever, rMulK, rGcd, L2.start, List.map, List.length, List.replicate, List.cons_append, List.nil_append, List.append_nil, List.set, List.set_cons_zero, List.set_cons_succ, List.getElem?_cons_succ, List.getElem?_cons_zero, Option.some.injEq, List.cons.injEq, V.int.injEq, V.str.injEq, V.bl.injEq, V.ref.injEq, and_true, true_and, exists_eq_left, exists_eq_left', exists_eq_right, exists_eq_right', exists_eq, exists_and_left, exists_and_right, and_assoc, exists_false, false_and, and_false, or_false, false_or, reduceCtorEq, Nat.reduceAdd, Nat.reduceSub, List.append_assoc, eq_self, if_true, if_false, Bool.false_eq_true, decide_eq_true_eq, List.length_cons, List.length_nil, L2.tCallN]
      exact k H2
end
end G
set_option Elab.async false
set_option linter.all false
set_option maxRecDepth 100000
set_option maxHeartbeats 0
namespace G
open PySem PySem.Spec PyProof.Rows L2 LamX NdefX
/-- the tuple of nothing that stands as the default of alike_moves -/
def kwAlk (K : PySem.W.Frag) : Addr := match K.lookup (He.fAd K ("alike_moves", none)) with
  | some ⟨_, _, .func fd, _⟩ => (match fd.kwdefaults with
    | .ref D => (match PySem.W.nsIn K D "points" with
      | some (some (.ref a)) => a
      | _ => 0)
    | _ => 0)
  | _ => 0
def kwTup (K : PySem.W.Frag) : Bool := match K.lookup (kwAlk K) with
  | some ⟨.type c, _, .seq its _, _⟩ => decide (c = "tuple") && decide (its.size = 0)
  | _ => false
theorem kwTup_ok {K : PySem.W.Frag} (h : kwTup K = true) (H : Hp) : SqT K H (kwAlk K) [] := by
  unfold kwTup at h
  cases q : K.lookup (kwAlk K) with
  | none =>
    rw [q] at h
    cases h
  | some o =>
    obtain ⟨oc, od, dt, osl⟩ := o
    rw [q] at h
    cases oc with
    | type c =>
      cases dt with
      | seq its n =>
        obtain ⟨h1, h2⟩ := Bool.and_eq_true_iff.mp (show (decide (c = "tuple") && decide (its.size = 0)) = true from h)
        have h3 := of_decide_eq_true h2
        have h4 : its.toList = [] := List.eq_nil_of_length_eq_zero (by rw [Array.length_toList]; exact h3)
        exact .inr ⟨_, its, n, q, congrArg Value.type (of_decide_eq_true h1), rfl, by omega, by rw [h4]; exact .nil⟩
      | _ => cases h
    | _ => cases dt <;> cases h
def d_alk : He.DefD := ⟨("alike_moves", none), "alike_moves", "alike_moves", defArgs s_alike_moves, defBody s_alike_moves, defScope s_alike_moves, [], [("points", .adr kwAlk)]⟩
theorem alk_mk {K : PySem.W.Frag} {mg : Str → Option Value} {fd : FuncData} (F : FunD K "alike_moves" "alike_moves" (defArgs s_alike_moves) (defBody s_alike_moves) (defScope s_alike_moves) [] [("points", .ref (kwAlk K))] (He.fAd K ("alike_moves", none)) fd)
    (g : mg "alike_moves" = some (.ref (He.fAd K ("alike_moves", none)))) (t : kwTup K = true) : Nonempty (AlkD K mg) := by
  obtain ⟨ds, dv, b⟩ := F.binds0 (ps := P_alike_moves) 2 (by simp) rfl fun D doc pm an cdv ct us ks hu hk => match us, hu, ks, hk with
    | [_, _], _, [_], _ => ⟨_, _, _, _, _, _, rfl, rfl, rfl⟩
  obtain ⟨mv, kb⟩ := F.kbinds0 (ps := P_alike_moves) 2 ["points"] [] (fun us _ ws => us ++ ws) (by simp) (by simp) (fun r1 _ r3 => r1.append r3) fun D doc pm an cdv ct us mv ws hu hm hw => match us, hu, mv, hm, ws, hw with
    | [_, _], _, [], _, [_], _ => rfl
  exact ⟨{ f := _, fd := fd, dA := kwAlk K, ds := ds, gg := _, F := F, g := g, dT := kwTup_ok t, dv := dv, b := b, kb := kb }⟩
def d_copied : He.DefD := ⟨("copied", none), "copied", "copied", defArgs s_copied, defBody s_copied, defScope s_copied, [], []⟩
def d_parts_in : He.DefD := ⟨("parts_in", none), "parts_in", "parts_in", defArgs s_parts_in, defBody s_parts_in, defScope s_parts_in, [], []⟩
def d_put_together : He.DefD := ⟨("put_together", none), "put_together", "put_together", defArgs s_put_together, defBody s_put_together, defScope s_put_together, [], []⟩
def d_make_point : He.DefD := ⟨("make_point", none), "make_point", "make_point", defArgs s_make_point, defBody s_make_point, defScope s_make_point, [], []⟩
def d_is_before : He.DefD := ⟨("is_before", none), "is_before", "is_before", defArgs s_is_before, defBody s_is_before, defScope s_is_before, [], []⟩
def d_code_of : He.DefD := ⟨("code_of", none), "code_of", "code_of", defArgs s_code_of, defBody s_code_of, defScope s_code_of, [], []⟩
def d_merged_points : He.DefD := ⟨("merged_points", none), "merged_points", "merged_points", defArgs s_merged_points, defBody s_merged_points, defScope s_merged_points, [], []⟩
def d_spread : He.DefD := ⟨("spread", none), "spread", "spread", defArgs s_spread, defBody s_spread, defScope s_spread, [], []⟩
def d_between : He.DefD := ⟨("between", none), "between", "between", defArgs s_between, defBody s_between, defScope s_between, [], []⟩
def d_codes_of : He.DefD := ⟨("codes_of", none), "codes_of", "codes_of", defArgs s_codes_of, defBody s_codes_of, defScope s_codes_of, [], []⟩
def d_places_of : He.DefD := ⟨("places_of", none), "places_of", "places_of", defArgs s_places_of, defBody s_places_of, defScope s_places_of, [], []⟩
def d_support : He.DefD := ⟨("support", none), "support", "support", defArgs s_support, defBody s_support, defScope s_support, [], []⟩
def d_value_text : He.DefD := ⟨("value_text", none), "value_text", "value_text", defArgs s_value_text, defBody s_value_text, defScope s_value_text, [], []⟩
def d_moved : He.DefD := ⟨("moved", none), "moved", "moved", defArgs s_moved, defBody s_moved, defScope s_moved, [], []⟩
def d_led : He.DefD := ⟨("led", none), "led", "led", defArgs s_led, defBody s_led, defScope s_led, [], []⟩
def d_led_set : He.DefD := ⟨("led_set", none), "led_set", "led_set", defArgs s_led_set, defBody s_led_set, defScope s_led_set, [], []⟩
def d_by_texts : He.DefD := ⟨("by_texts", none), "by_texts", "by_texts", defArgs s_by_texts, defBody s_by_texts, defScope s_by_texts, [], []⟩
def d_replaced : He.DefD := ⟨("replaced", none), "replaced", "replaced", defArgs s_replaced, defBody s_replaced, defScope s_replaced, [], []⟩
def d_placed : He.DefD := ⟨("placed", none), "placed", "placed", defArgs s_placed, defBody s_placed, defScope s_placed, [], []⟩
def d_are_alike : He.DefD := ⟨("are_alike", none), "are_alike", "are_alike", defArgs s_are_alike, defBody s_are_alike, defScope s_are_alike, [], []⟩
def d__law_open_cells : He.DefD := ⟨("_law_open_cells", none), "_law_open_cells", "_law_open_cells", defArgs s__law_open_cells, defBody s__law_open_cells, defScope s__law_open_cells, [], []⟩
def d__law_pick : He.DefD := ⟨("_law_pick", none), "_law_pick", "_law_pick", defArgs s__law_pick, defBody s__law_pick, defScope s__law_pick, [], []⟩
def d__law_point : He.DefD := ⟨("_law_point", none), "_law_point", "_law_point", defArgs s__law_point, defBody s__law_point, defScope s__law_point, [], []⟩
def d__law_less : He.DefD := ⟨("_law_less", none), "_law_less", "_law_less", defArgs s__law_less, defBody s__law_less, defScope s__law_less, [], []⟩
def d__law_ascending : He.DefD := ⟨("_law_ascending", none), "_law_ascending", "_law_ascending", defArgs s__law_ascending, defBody s__law_ascending, defScope s__law_ascending, [], []⟩
def d__law_gap : He.DefD := ⟨("_law_gap", none), "_law_gap", "_law_gap", defArgs s__law_gap, defBody s__law_gap, defScope s__law_gap, [], []⟩
def d__law_spread : He.DefD := ⟨("_law_spread", none), "_law_spread", "_law_spread", defArgs s__law_spread, defBody s__law_spread, defScope s__law_spread, [], []⟩
def d__law_support : He.DefD := ⟨("_law_support", none), "_law_support", "_law_support", defArgs s__law_support, defBody s__law_support, defScope s__law_support, [], []⟩
def d__law_text : He.DefD := ⟨("_law_text", none), "_law_text", "_law_text", defArgs s__law_text, defBody s__law_text, defScope s__law_text, [], []⟩
def d__law_moved : He.DefD := ⟨("_law_moved", none), "_law_moved", "_law_moved", defArgs s__law_moved, defBody s__law_moved, defScope s__law_moved, [], []⟩
def d__law_ends : He.DefD := ⟨("_law_ends", none), "_law_ends", "_law_ends", defArgs s__law_ends, defBody s__law_ends, defScope s__law_ends, [], []⟩
def d__law_placed : He.DefD := ⟨("_law_placed", none), "_law_placed", "_law_placed", defArgs s__law_placed, defBody s__law_placed, defScope s__law_placed, [], []⟩
def d__law_alike : He.DefD := ⟨("_law_alike", none), "_law_alike", "_law_alike", defArgs s__law_alike, defBody s__law_alike, defScope s__law_alike, [], []⟩
def d__law_bundle : He.DefD := ⟨("_law_bundle", none), "_law_bundle", "_law_bundle", defArgs s__law_bundle, defBody s__law_bundle, defScope s__law_bundle, [], []⟩
def d__law_made : He.DefD := ⟨("_law_made", none), "_law_made", "_law_made", defArgs s__law_made, defBody s__law_made, defScope s__law_made, [], []⟩
def d__law_draw_points : He.DefD := ⟨("_law_draw_points", none), "_law_draw_points", "_law_draw_points", defArgs s__law_draw_points, defBody s__law_draw_points, defScope s__law_draw_points, [], []⟩
def d__law_draw_value : He.DefD := ⟨("_law_draw_value", none), "_law_draw_value", "_law_draw_value", defArgs s__law_draw_value, defBody s__law_draw_value, defScope s__law_draw_value, [], []⟩
def d__law_draw_set : He.DefD := ⟨("_law_draw_set", none), "_law_draw_set", "_law_draw_set", defArgs s__law_draw_set, defBody s__law_draw_set, defScope s__law_draw_set, [], []⟩
def d__law_due : He.DefD := ⟨("_law_due", none), "_law_due", "_law_due", defArgs s__law_due, defBody s__law_due, defScope s__law_due, [], []⟩
def d_law : He.DefD := ⟨("law", none), "law", "law", defArgs s_law, defBody s_law, defScope s_law, [], []⟩
def fnX : List He.DefD := [d_copied, d_parts_in, d_put_together, d_make_point, d_is_before, d_code_of, d_merged_points, d_spread, d_between, d_codes_of, d_places_of, d_support, d_value_text, d_moved, d_led, d_led_set, d_by_texts, d_replaced, d_placed, d_are_alike, d__law_open_cells, d__law_pick, d__law_point, d__law_less, d__law_ascending, d__law_gap, d__law_spread, d__law_support, d__law_text, d__law_moved, d__law_ends, d__law_placed, d__law_alike, d__law_bundle, d__law_made, d__law_draw_points, d__law_draw_value, d__law_draw_set, d__law_due, d_law, d_alk]
def faX : List He.Fa := [.glo "copied", .glo "parts_in", .glo "put_together", .glo "make_point", .glo "is_before", .glo "code_of", .glo "merged_points", .glo "spread", .glo "between", .glo "codes_of", .glo "places_of", .glo "support", .glo "value_text", .glo "moved", .glo "led", .glo "led_set", .glo "by_texts", .glo "replaced", .glo "placed", .glo "are_alike", .glo "_law_open_cells", .glo "_law_pick", .glo "_law_point", .glo "_law_less", .glo "_law_ascending", .glo "_law_gap", .glo "_law_spread", .glo "_law_support", .glo "_law_text", .glo "_law_moved", .glo "_law_ends", .glo "_law_placed", .glo "_law_alike", .glo "_law_bundle", .glo "_law_made", .glo "_law_draw_points", .glo "_law_draw_value", .glo "_law_draw_set", .glo "_law_due", .glo "law", .free "abs", .free "int", .free "len", .free "range", .free "all", .free "any", .free "list", .free "tuple", .free "isinstance", .free "repr", .free "zip", .free "str", .free "sorted", .free "dict", .glo "alike_moves"]
def tfX : List He.Defn := [("by_texts", none), ("_law_moved", none), ("_law_made", none)]
def impX_gcd (K : PySem.W.Frag) : Bool := match PySem.W.nsIn K mainGlobals "gcd" with
  | some (some (.builtin s)) => decide (s = "math.gcd")
  | _ => false
theorem impX_gcd_ok {K : PySem.W.Frag} {h : Heap} {mg : Str → Option Value} (X : K.In h) (G : h.Ns mainGlobals mg) (e : impX_gcd K = true) : mg "gcd" = some (.builtin "math.gcd") := by
  unfold impX_gcd at e
  split at e
  · rename_i s q
    rw [of_decide_eq_true e] at q
    exact PySem.W.mg_of X G q
  · cases e
def exX : PySem.W.Frag → Bool := fun K => kwTup K && decide ((He.cT K ("by_texts", none)).2 ≠ (He.cT K ("_law_moved", none)).2) && decide ((He.cT K ("by_texts", none)).2 ≠ (He.cT K ("_law_made", none)).2) && decide ((He.cT K ("_law_moved", none)).2 ≠ (He.cT K ("_law_made", none)).2) && impX_gcd K
abbrev fileX : Str := PySem.Challenge.rw_gapwise_k23_moves_between_alike_values.prog.main.file
def esX : List ErrD := [⟨"BadMove", "BadMove.__init__", sIniM, ["called"]⟩]
theorem topSup : (PySem.Challenge.rw_gapwise_k23_moves_between_alike_values.prog.main.scope.names.lookup ("super" : Str)).isSome = false := by decide +kernel
theorem tf0 : (("by_texts", none) : He.Defn) ∈ tfX := List.mem_cons_self ..
theorem tf1 : (("_law_moved", none) : He.Defn) ∈ tfX := List.mem_cons_of_mem _ (List.mem_cons_self ..)
theorem tf2 : (("_law_made", none) : He.Defn) ∈ tfX := List.mem_cons_of_mem _ (List.mem_cons_of_mem _ (List.mem_cons_self ..))
theorem lawX2 {w : World} {K : PySem.W.Frag} {h : Heap} {mg : Str → Option Value} (X : K.In h) (W : Ds K mg) (AD : AlkD K mg) {C fi cc cda : Addr} {fdi : FuncData} (R : ErrM8 PySem.Challenge.rw_gapwise_k23_moves_between_alike_values.prog K mg C fi cc cda fdi) (bI : BindsI K fdi) (F0 : Fun K "by_texts" "by_texts" s_by_texts (He.fAd K ("by_texts", none)) W.fd_by_texts) (F1 : Fun K "_law_moved" "_law_moved" s__law_moved (He.fAd K ("_law_moved", none)) W.fd__law_moved) (F2 : Fun K "_law_made" "_law_made" s__law_made (He.fAd K ("_law_made", none)) W.fd__law_made)
    (bind : ∀ (s : Shared) (u : Value), BindsTo s W.fd_law ⟨[u], []⟩ [("script", u)]) (tA : TabsAt K h (tfX.map (He.cT K))) (ne0_1 : (He.cT K ("by_texts", none)).2 ≠ (He.cT K ("_law_moved", none)).2) (ne0_2 : (He.cT K ("by_texts", none)).2 ≠ (He.cT K ("_law_made", none)).2) (ne1_2 : (He.cT K ("_law_moved", none)).2 ≠ (He.cT K ("_law_made", none)).2) : LawG PySem.Challenge.rw_gapwise_k23_moves_between_alike_values w K 22 63 "script" mg W.f_law h := by
  have m0 : (He.cT K ("by_texts", none)) ∈ tfX.map (He.cT K) := List.mem_map.mpr ⟨_, tf0, rfl⟩
  have m1 : (He.cT K ("_law_moved", none)) ∈ tfX.map (He.cT K) := List.mem_map.mpr ⟨_, tf1, rfl⟩
  have m2 : (He.cT K ("_law_made", none)) ∈ tfX.map (He.cT K) := List.mem_map.mpr ⟨_, tf2, rfl⟩
  refine ⟨W.fd_law, tfX.map (He.cT K), sp_lawT K [((He.cT K ("by_texts", none)).2, (("by_texts" : Str) ++ ".<locals>." ++ "<lambda>")), ((He.cT K ("_law_moved", none)).2, (("_law_moved" : Str) ++ ".<locals>." ++ "<lambda>")), ((He.cT K ("_law_made", none)).2, (("_law_made" : Str) ++ ".<locals>." ++ "<lambda>"))], tA, bind, fun H a ns hl tabs seq => ⟨a, ns, rfl, seq, hl, tabs_empty fun p hp => ?_, fun _ => rfl⟩, fun base _ _ TB => ?_⟩
  · rcases List.mem_cons.mp hp with rfl | hp
    · exact tabs _ m0
    rcases List.mem_cons.mp hp with rfl | hp
    · exact tabs _ m1
    rw [List.mem_singleton.mp hp]; exact tabs _ m2
  · have u0 : ∀ p ∈ ([((He.cT K ("by_texts", none)).2, (("by_texts" : Str) ++ ".<locals>." ++ "<lambda>")), ((He.cT K ("_law_moved", none)).2, (("_law_moved" : Str) ++ ".<locals>." ++ "<lambda>")), ((He.cT K ("_law_made", none)).2, (("_law_made" : Str) ++ ".<locals>." ++ "<lambda>"))] : List (Addr × Str)), p.1 = (He.cT K ("by_texts", none)).2 → p.2 = (("by_texts" : Str) ++ ".<locals>." ++ "<lambda>") := by
      intro p hp e
      rcases List.mem_cons.mp hp with rfl | hp
      · exact rfl
      rcases List.mem_cons.mp hp with rfl | hp
      · exact absurd e (Ne.symm ne0_1)
      obtain rfl := List.mem_singleton.mp hp
      exact absurd e (Ne.symm ne0_2)
    have u1 : ∀ p ∈ ([((He.cT K ("by_texts", none)).2, (("by_texts" : Str) ++ ".<locals>." ++ "<lambda>")), ((He.cT K ("_law_moved", none)).2, (("_law_moved" : Str) ++ ".<locals>." ++ "<lambda>")), ((He.cT K ("_law_made", none)).2, (("_law_made" : Str) ++ ".<locals>." ++ "<lambda>"))] : List (Addr × Str)), p.1 = (He.cT K ("_law_moved", none)).2 → p.2 = (("_law_moved" : Str) ++ ".<locals>." ++ "<lambda>") := by
      intro p hp e
      rcases List.mem_cons.mp hp with rfl | hp
      · exact absurd e ne0_1
      rcases List.mem_cons.mp hp with rfl | hp
      · exact rfl
      obtain rfl := List.mem_singleton.mp hp
      exact absurd e (Ne.symm ne1_2)
    have u2 : ∀ p ∈ ([((He.cT K ("by_texts", none)).2, (("by_texts" : Str) ++ ".<locals>." ++ "<lambda>")), ((He.cT K ("_law_moved", none)).2, (("_law_moved" : Str) ++ ".<locals>." ++ "<lambda>")), ((He.cT K ("_law_made", none)).2, (("_law_made" : Str) ++ ".<locals>." ++ "<lambda>"))] : List (Addr × Str)), p.1 = (He.cT K ("_law_made", none)).2 → p.2 = (("_law_made" : Str) ++ ".<locals>." ++ "<lambda>") := by
      intro p hp e
      rcases List.mem_cons.mp hp with rfl | hp
      · exact absurd e ne0_2
      rcases List.mem_cons.mp hp with rfl | hp
      · exact absurd e ne1_2
      obtain rfl := List.mem_singleton.mp hp
      exact rfl
    exact ok_law W { T := [((He.cT K ("by_texts", none)).2, (("by_texts" : Str) ++ ".<locals>." ++ "<lambda>")), ((He.cT K ("_law_moved", none)).2, (("_law_moved" : Str) ++ ".<locals>." ++ "<lambda>")), ((He.cT K ("_law_made", none)).2, (("_law_made" : Str) ++ ".<locals>." ++ "<lambda>"))], by_texts := ⟨_, _, code_of_fun F0, TB _ m0, List.mem_cons_self .., u0⟩, moved := ⟨_, _, code_of_fun F1, TB _ m1, List.mem_cons_of_mem _ (List.mem_cons_self ..), u1⟩, made := ⟨_, _, code_of_fun F2, TB _ m2, List.mem_cons_of_mem _ (List.mem_cons_of_mem _ (List.mem_cons_self ..)), u2⟩ } AD R bI

theorem lawX {w : World} {K : PySem.W.Frag} {h : Heap} {mg : Str → Option Value} {fa : Addr} (X : K.In h) (G : h.Ns mainGlobals mg) (hfa : mg "law" = some (.ref fa)) (cy : SaysY faX fnX tfX exX esX fileX w h K) : LawG PySem.Challenge.rw_gapwise_k23_moves_between_alike_values w K 22 63 "script" mg fa h := by
  have c := cy.x
  have cd : He.SaysD faX fnX K := congrArg (fun z : He.AlT => z.1) c.t
  obtain ⟨fd0, E0⟩ := cd.def_ 0 (d := d_copied) rfl
  have F0 : Fun K "copied" "copied" s_copied (He.fAd K ("copied", none)) fd0 := fun_of E0
  have b0 := F0.binds (ps := P_copied) fun _ _ _ _ _ _ us hl => match us, hl with | [_], _ => rfl
  have g0 : mg "copied" = some (.ref (He.fAd K ("copied", none))) := He.glo_ok X G (cd.fact 0 (f := .glo "copied") rfl)
  obtain ⟨fd1, E1⟩ := cd.def_ 1 (d := d_parts_in) rfl
  have F1 : Fun K "parts_in" "parts_in" s_parts_in (He.fAd K ("parts_in", none)) fd1 := fun_of E1
  have b1 := F1.binds (ps := P_parts_in) fun _ _ _ _ _ _ us hl => match us, hl with | [_], _ => rfl
  have g1 : mg "parts_in" = some (.ref (He.fAd K ("parts_in", none))) := He.glo_ok X G (cd.fact 1 (f := .glo "parts_in") rfl)
  obtain ⟨fd2, E2⟩ := cd.def_ 2 (d := d_put_together) rfl
  have F2 : Fun K "put_together" "put_together" s_put_together (He.fAd K ("put_together", none)) fd2 := fun_of E2
  have b2 := F2.binds (ps := P_put_together) fun _ _ _ _ _ _ us hl => match us, hl with | [_, _], _ => rfl
  have g2 : mg "put_together" = some (.ref (He.fAd K ("put_together", none))) := He.glo_ok X G (cd.fact 2 (f := .glo "put_together") rfl)
  obtain ⟨fd3, E3⟩ := cd.def_ 3 (d := d_make_point) rfl
  have F3 : Fun K "make_point" "make_point" s_make_point (He.fAd K ("make_point", none)) fd3 := fun_of E3
  have b3 := F3.binds (ps := P_make_point) fun _ _ _ _ _ _ us hl => match us, hl with | [_, _], _ => rfl
  have g3 : mg "make_point" = some (.ref (He.fAd K ("make_point", none))) := He.glo_ok X G (cd.fact 3 (f := .glo "make_point") rfl)
  obtain ⟨fd4, E4⟩ := cd.def_ 4 (d := d_is_before) rfl
  have F4 : Fun K "is_before" "is_before" s_is_before (He.fAd K ("is_before", none)) fd4 := fun_of E4
  have b4 := F4.binds (ps := P_is_before) fun _ _ _ _ _ _ us hl => match us, hl with | [_, _], _ => rfl
  have g4 : mg "is_before" = some (.ref (He.fAd K ("is_before", none))) := He.glo_ok X G (cd.fact 4 (f := .glo "is_before") rfl)
  obtain ⟨fd5, E5⟩ := cd.def_ 5 (d := d_code_of) rfl
  have F5 : Fun K "code_of" "code_of" s_code_of (He.fAd K ("code_of", none)) fd5 := fun_of E5
  have b5 := F5.binds (ps := P_code_of) fun _ _ _ _ _ _ us hl => match us, hl with | [_, _], _ => rfl
  have g5 : mg "code_of" = some (.ref (He.fAd K ("code_of", none))) := He.glo_ok X G (cd.fact 5 (f := .glo "code_of") rfl)
  obtain ⟨fd6, E6⟩ := cd.def_ 6 (d := d_merged_points) rfl
  have F6 : Fun K "merged_points" "merged_points" s_merged_points (He.fAd K ("merged_points", none)) fd6 := fun_of E6
  have b6 := F6.binds (ps := P_merged_points) fun _ _ _ _ _ _ us hl => match us, hl with | [_, _], _ => rfl
  have g6 : mg "merged_points" = some (.ref (He.fAd K ("merged_points", none))) := He.glo_ok X G (cd.fact 6 (f := .glo "merged_points") rfl)
  obtain ⟨fd7, E7⟩ := cd.def_ 7 (d := d_spread) rfl
  have F7 : Fun K "spread" "spread" s_spread (He.fAd K ("spread", none)) fd7 := fun_of E7
  have b7 := F7.binds (ps := P_spread) fun _ _ _ _ _ _ us hl => match us, hl with | [_, _, _], _ => rfl
  have g7 : mg "spread" = some (.ref (He.fAd K ("spread", none))) := He.glo_ok X G (cd.fact 7 (f := .glo "spread") rfl)
  obtain ⟨fd8, E8⟩ := cd.def_ 8 (d := d_between) rfl
  have F8 : Fun K "between" "between" s_between (He.fAd K ("between", none)) fd8 := fun_of E8
  have b8 := F8.binds (ps := P_between) fun _ _ _ _ _ _ us hl => match us, hl with | [_, _, _, _], _ => rfl
  have g8 : mg "between" = some (.ref (He.fAd K ("between", none))) := He.glo_ok X G (cd.fact 8 (f := .glo "between") rfl)
  obtain ⟨fd9, E9⟩ := cd.def_ 9 (d := d_codes_of) rfl
  have F9 : Fun K "codes_of" "codes_of" s_codes_of (He.fAd K ("codes_of", none)) fd9 := fun_of E9
  have b9 := F9.binds (ps := P_codes_of) fun _ _ _ _ _ _ us hl => match us, hl with | [_, _], _ => rfl
  have g9 : mg "codes_of" = some (.ref (He.fAd K ("codes_of", none))) := He.glo_ok X G (cd.fact 9 (f := .glo "codes_of") rfl)
  obtain ⟨fd10, E10⟩ := cd.def_ 10 (d := d_places_of) rfl
  have F10 : Fun K "places_of" "places_of" s_places_of (He.fAd K ("places_of", none)) fd10 := fun_of E10
  have b10 := F10.binds (ps := P_places_of) fun _ _ _ _ _ _ us hl => match us, hl with | [_, _], _ => rfl
  have g10 : mg "places_of" = some (.ref (He.fAd K ("places_of", none))) := He.glo_ok X G (cd.fact 10 (f := .glo "places_of") rfl)
  obtain ⟨fd11, E11⟩ := cd.def_ 11 (d := d_support) rfl
  have F11 : Fun K "support" "support" s_support (He.fAd K ("support", none)) fd11 := fun_of E11
  have b11 := F11.binds (ps := P_support) fun _ _ _ _ _ _ us hl => match us, hl with | [_], _ => rfl
  have g11 : mg "support" = some (.ref (He.fAd K ("support", none))) := He.glo_ok X G (cd.fact 11 (f := .glo "support") rfl)
  obtain ⟨fd12, E12⟩ := cd.def_ 12 (d := d_value_text) rfl
  have F12 : Fun K "value_text" "value_text" s_value_text (He.fAd K ("value_text", none)) fd12 := fun_of E12
  have b12 := F12.binds (ps := P_value_text) fun _ _ _ _ _ _ us hl => match us, hl with | [_], _ => rfl
  have g12 : mg "value_text" = some (.ref (He.fAd K ("value_text", none))) := He.glo_ok X G (cd.fact 12 (f := .glo "value_text") rfl)
  obtain ⟨fd13, E13⟩ := cd.def_ 13 (d := d_moved) rfl
  have F13 : Fun K "moved" "moved" s_moved (He.fAd K ("moved", none)) fd13 := fun_of E13
  have b13 := F13.binds (ps := P_moved) fun _ _ _ _ _ _ us hl => match us, hl with | [_, _], _ => rfl
  have g13 : mg "moved" = some (.ref (He.fAd K ("moved", none))) := He.glo_ok X G (cd.fact 13 (f := .glo "moved") rfl)
  obtain ⟨fd14, E14⟩ := cd.def_ 14 (d := d_led) rfl
  have F14 : Fun K "led" "led" s_led (He.fAd K ("led", none)) fd14 := fun_of E14
  have b14 := F14.binds (ps := P_led) fun _ _ _ _ _ _ us hl => match us, hl with | [_, _], _ => rfl
  have g14 : mg "led" = some (.ref (He.fAd K ("led", none))) := He.glo_ok X G (cd.fact 14 (f := .glo "led") rfl)
  obtain ⟨fd15, E15⟩ := cd.def_ 15 (d := d_led_set) rfl
  have F15 : Fun K "led_set" "led_set" s_led_set (He.fAd K ("led_set", none)) fd15 := fun_of E15
  have b15 := F15.binds (ps := P_led_set) fun _ _ _ _ _ _ us hl => match us, hl with | [_, _], _ => rfl
  have g15 : mg "led_set" = some (.ref (He.fAd K ("led_set", none))) := He.glo_ok X G (cd.fact 15 (f := .glo "led_set") rfl)
  obtain ⟨fd16, E16⟩ := cd.def_ 16 (d := d_by_texts) rfl
  have F16 : Fun K "by_texts" "by_texts" s_by_texts (He.fAd K ("by_texts", none)) fd16 := fun_of E16
  have b16 := F16.binds (ps := P_by_texts) fun _ _ _ _ _ _ us hl => match us, hl with | [_], _ => rfl
  have g16 : mg "by_texts" = some (.ref (He.fAd K ("by_texts", none))) := He.glo_ok X G (cd.fact 16 (f := .glo "by_texts") rfl)
  obtain ⟨fd17, E17⟩ := cd.def_ 17 (d := d_replaced) rfl
  have F17 : Fun K "replaced" "replaced" s_replaced (He.fAd K ("replaced", none)) fd17 := fun_of E17
  have b17 := F17.binds (ps := P_replaced) fun _ _ _ _ _ _ us hl => match us, hl with | [_, _, _], _ => rfl
  have g17 : mg "replaced" = some (.ref (He.fAd K ("replaced", none))) := He.glo_ok X G (cd.fact 17 (f := .glo "replaced") rfl)
  obtain ⟨fd18, E18⟩ := cd.def_ 18 (d := d_placed) rfl
  have F18 : Fun K "placed" "placed" s_placed (He.fAd K ("placed", none)) fd18 := fun_of E18
  have b18 := F18.binds (ps := P_placed) fun _ _ _ _ _ _ us hl => match us, hl with | [_, _], _ => rfl
  have g18 : mg "placed" = some (.ref (He.fAd K ("placed", none))) := He.glo_ok X G (cd.fact 18 (f := .glo "placed") rfl)
  obtain ⟨fd19, E19⟩ := cd.def_ 19 (d := d_are_alike) rfl
  have F19 : Fun K "are_alike" "are_alike" s_are_alike (He.fAd K ("are_alike", none)) fd19 := fun_of E19
  have b19 := F19.binds (ps := P_are_alike) fun _ _ _ _ _ _ us hl => match us, hl with | [_, _, _], _ => rfl
  have g19 : mg "are_alike" = some (.ref (He.fAd K ("are_alike", none))) := He.glo_ok X G (cd.fact 19 (f := .glo "are_alike") rfl)
  obtain ⟨fd20, E20⟩ := cd.def_ 20 (d := d__law_open_cells) rfl
  have F20 : Fun K "_law_open_cells" "_law_open_cells" s__law_open_cells (He.fAd K ("_law_open_cells", none)) fd20 := fun_of E20
  have b20 := F20.binds (ps := P__law_open_cells) fun _ _ _ _ _ _ us hl => match us, hl with | [_], _ => rfl
  have g20 : mg "_law_open_cells" = some (.ref (He.fAd K ("_law_open_cells", none))) := He.glo_ok X G (cd.fact 20 (f := .glo "_law_open_cells") rfl)
  obtain ⟨fd21, E21⟩ := cd.def_ 21 (d := d__law_pick) rfl
  have F21 : Fun K "_law_pick" "_law_pick" s__law_pick (He.fAd K ("_law_pick", none)) fd21 := fun_of E21
  have b21 := F21.binds (ps := P__law_pick) fun _ _ _ _ _ _ us hl => match us, hl with | [_, _], _ => rfl
  have g21 : mg "_law_pick" = some (.ref (He.fAd K ("_law_pick", none))) := He.glo_ok X G (cd.fact 21 (f := .glo "_law_pick") rfl)
  obtain ⟨fd22, E22⟩ := cd.def_ 22 (d := d__law_point) rfl
  have F22 : Fun K "_law_point" "_law_point" s__law_point (He.fAd K ("_law_point", none)) fd22 := fun_of E22
  have b22 := F22.binds (ps := P__law_point) fun _ _ _ _ _ _ us hl => match us, hl with | [_, _], _ => rfl
  have g22 : mg "_law_point" = some (.ref (He.fAd K ("_law_point", none))) := He.glo_ok X G (cd.fact 22 (f := .glo "_law_point") rfl)
  obtain ⟨fd23, E23⟩ := cd.def_ 23 (d := d__law_less) rfl
  have F23 : Fun K "_law_less" "_law_less" s__law_less (He.fAd K ("_law_less", none)) fd23 := fun_of E23
  have b23 := F23.binds (ps := P__law_less) fun _ _ _ _ _ _ us hl => match us, hl with | [_, _], _ => rfl
  have g23 : mg "_law_less" = some (.ref (He.fAd K ("_law_less", none))) := He.glo_ok X G (cd.fact 23 (f := .glo "_law_less") rfl)
  obtain ⟨fd24, E24⟩ := cd.def_ 24 (d := d__law_ascending) rfl
  have F24 : Fun K "_law_ascending" "_law_ascending" s__law_ascending (He.fAd K ("_law_ascending", none)) fd24 := fun_of E24
  have b24 := F24.binds (ps := P__law_ascending) fun _ _ _ _ _ _ us hl => match us, hl with | [_], _ => rfl
  have g24 : mg "_law_ascending" = some (.ref (He.fAd K ("_law_ascending", none))) := He.glo_ok X G (cd.fact 24 (f := .glo "_law_ascending") rfl)
  obtain ⟨fd25, E25⟩ := cd.def_ 25 (d := d__law_gap) rfl
  have F25 : Fun K "_law_gap" "_law_gap" s__law_gap (He.fAd K ("_law_gap", none)) fd25 := fun_of E25
  have b25 := F25.binds (ps := P__law_gap) fun _ _ _ _ _ _ us hl => match us, hl with | [_, _], _ => rfl
  have g25 : mg "_law_gap" = some (.ref (He.fAd K ("_law_gap", none))) := He.glo_ok X G (cd.fact 25 (f := .glo "_law_gap") rfl)
  obtain ⟨fd26, E26⟩ := cd.def_ 26 (d := d__law_spread) rfl
  have F26 : Fun K "_law_spread" "_law_spread" s__law_spread (He.fAd K ("_law_spread", none)) fd26 := fun_of E26
  have b26 := F26.binds (ps := P__law_spread) fun _ _ _ _ _ _ us hl => match us, hl with | [_, _, _], _ => rfl
  have g26 : mg "_law_spread" = some (.ref (He.fAd K ("_law_spread", none))) := He.glo_ok X G (cd.fact 26 (f := .glo "_law_spread") rfl)
  obtain ⟨fd27, E27⟩ := cd.def_ 27 (d := d__law_support) rfl
  have F27 : Fun K "_law_support" "_law_support" s__law_support (He.fAd K ("_law_support", none)) fd27 := fun_of E27
  have b27 := F27.binds (ps := P__law_support) fun _ _ _ _ _ _ us hl => match us, hl with | [_], _ => rfl
  have g27 : mg "_law_support" = some (.ref (He.fAd K ("_law_support", none))) := He.glo_ok X G (cd.fact 27 (f := .glo "_law_support") rfl)
  obtain ⟨fd28, E28⟩ := cd.def_ 28 (d := d__law_text) rfl
  have F28 : Fun K "_law_text" "_law_text" s__law_text (He.fAd K ("_law_text", none)) fd28 := fun_of E28
  have b28 := F28.binds (ps := P__law_text) fun _ _ _ _ _ _ us hl => match us, hl with | [_], _ => rfl
  have g28 : mg "_law_text" = some (.ref (He.fAd K ("_law_text", none))) := He.glo_ok X G (cd.fact 28 (f := .glo "_law_text") rfl)
  obtain ⟨fd29, E29⟩ := cd.def_ 29 (d := d__law_moved) rfl
  have F29 : Fun K "_law_moved" "_law_moved" s__law_moved (He.fAd K ("_law_moved", none)) fd29 := fun_of E29
  have b29 := F29.binds (ps := P__law_moved) fun _ _ _ _ _ _ us hl => match us, hl with | [_, _, _], _ => rfl
  have g29 : mg "_law_moved" = some (.ref (He.fAd K ("_law_moved", none))) := He.glo_ok X G (cd.fact 29 (f := .glo "_law_moved") rfl)
  obtain ⟨fd30, E30⟩ := cd.def_ 30 (d := d__law_ends) rfl
  have F30 : Fun K "_law_ends" "_law_ends" s__law_ends (He.fAd K ("_law_ends", none)) fd30 := fun_of E30
  have b30 := F30.binds (ps := P__law_ends) fun _ _ _ _ _ _ us hl => match us, hl with | [_, _, _], _ => rfl
  have g30 : mg "_law_ends" = some (.ref (He.fAd K ("_law_ends", none))) := He.glo_ok X G (cd.fact 30 (f := .glo "_law_ends") rfl)
  obtain ⟨fd31, E31⟩ := cd.def_ 31 (d := d__law_placed) rfl
  have F31 : Fun K "_law_placed" "_law_placed" s__law_placed (He.fAd K ("_law_placed", none)) fd31 := fun_of E31
  have b31 := F31.binds (ps := P__law_placed) fun _ _ _ _ _ _ us hl => match us, hl with | [_, _], _ => rfl
  have g31 : mg "_law_placed" = some (.ref (He.fAd K ("_law_placed", none))) := He.glo_ok X G (cd.fact 31 (f := .glo "_law_placed") rfl)
  obtain ⟨fd32, E32⟩ := cd.def_ 32 (d := d__law_alike) rfl
  have F32 : Fun K "_law_alike" "_law_alike" s__law_alike (He.fAd K ("_law_alike", none)) fd32 := fun_of E32
  have b32 := F32.binds (ps := P__law_alike) fun _ _ _ _ _ _ us hl => match us, hl with | [_, _, _], _ => rfl
  have g32 : mg "_law_alike" = some (.ref (He.fAd K ("_law_alike", none))) := He.glo_ok X G (cd.fact 32 (f := .glo "_law_alike") rfl)
  obtain ⟨fd33, E33⟩ := cd.def_ 33 (d := d__law_bundle) rfl
  have F33 : Fun K "_law_bundle" "_law_bundle" s__law_bundle (He.fAd K ("_law_bundle", none)) fd33 := fun_of E33
  have b33 := F33.binds (ps := P__law_bundle) fun _ _ _ _ _ _ us hl => match us, hl with | [_, _, _], _ => rfl
  have g33 : mg "_law_bundle" = some (.ref (He.fAd K ("_law_bundle", none))) := He.glo_ok X G (cd.fact 33 (f := .glo "_law_bundle") rfl)
  obtain ⟨fd34, E34⟩ := cd.def_ 34 (d := d__law_made) rfl
  have F34 : Fun K "_law_made" "_law_made" s__law_made (He.fAd K ("_law_made", none)) fd34 := fun_of E34
  have b34 := F34.binds (ps := P__law_made) fun _ _ _ _ _ _ us hl => match us, hl with | [_, _], _ => rfl
  have g34 : mg "_law_made" = some (.ref (He.fAd K ("_law_made", none))) := He.glo_ok X G (cd.fact 34 (f := .glo "_law_made") rfl)
  obtain ⟨fd35, E35⟩ := cd.def_ 35 (d := d__law_draw_points) rfl
  have F35 : Fun K "_law_draw_points" "_law_draw_points" s__law_draw_points (He.fAd K ("_law_draw_points", none)) fd35 := fun_of E35
  have b35 := F35.binds (ps := P__law_draw_points) fun _ _ _ _ _ _ us hl => match us, hl with | [_, _], _ => rfl
  have g35 : mg "_law_draw_points" = some (.ref (He.fAd K ("_law_draw_points", none))) := He.glo_ok X G (cd.fact 35 (f := .glo "_law_draw_points") rfl)
  obtain ⟨fd36, E36⟩ := cd.def_ 36 (d := d__law_draw_value) rfl
  have F36 : Fun K "_law_draw_value" "_law_draw_value" s__law_draw_value (He.fAd K ("_law_draw_value", none)) fd36 := fun_of E36
  have b36 := F36.binds (ps := P__law_draw_value) fun _ _ _ _ _ _ us hl => match us, hl with | [_, _, _], _ => rfl
  have g36 : mg "_law_draw_value" = some (.ref (He.fAd K ("_law_draw_value", none))) := He.glo_ok X G (cd.fact 36 (f := .glo "_law_draw_value") rfl)
  obtain ⟨fd37, E37⟩ := cd.def_ 37 (d := d__law_draw_set) rfl
  have F37 : Fun K "_law_draw_set" "_law_draw_set" s__law_draw_set (He.fAd K ("_law_draw_set", none)) fd37 := fun_of E37
  have b37 := F37.binds (ps := P__law_draw_set) fun _ _ _ _ _ _ us hl => match us, hl with | [_, _, _, _], _ => rfl
  have g37 : mg "_law_draw_set" = some (.ref (He.fAd K ("_law_draw_set", none))) := He.glo_ok X G (cd.fact 37 (f := .glo "_law_draw_set") rfl)
  obtain ⟨fd38, E38⟩ := cd.def_ 38 (d := d__law_due) rfl
  have F38 : Fun K "_law_due" "_law_due" s__law_due (He.fAd K ("_law_due", none)) fd38 := fun_of E38
  have b38 := F38.binds (ps := P__law_due) fun _ _ _ _ _ _ us hl => match us, hl with | [_, _, _], _ => rfl
  have g38 : mg "_law_due" = some (.ref (He.fAd K ("_law_due", none))) := He.glo_ok X G (cd.fact 38 (f := .glo "_law_due") rfl)
  obtain ⟨fd39, E39⟩ := cd.def_ 39 (d := d_law) rfl
  have F39 : Fun K "law" "law" s_law (He.fAd K ("law", none)) fd39 := fun_of E39
  have b39 := F39.binds (ps := P_law) fun _ _ _ _ _ _ us hl => match us, hl with | [_], _ => rfl
  have g39 : mg "law" = some (.ref (He.fAd K ("law", none))) := He.glo_ok X G (cd.fact 39 (f := .glo "law") rfl)
  have e := hfa.symm.trans g39
  cases e
  have cm := c.more
  simp only [exX, Bool.and_eq_true] at cm
  obtain ⟨⟨⟨⟨mx0, m0_1⟩, m0_2⟩, m1_2⟩, mi_gcd⟩ := cm
  have ne0_1 := of_decide_eq_true m0_1
  have ne0_2 := of_decide_eq_true m0_2
  have ne1_2 := of_decide_eq_true m1_2
  let W : Ds K mg := {
    T := { b_abs := He.free_ok X G (cd.fact 40 (f := .free "abs") rfl), b_int := He.free_ok X G (cd.fact 41 (f := .free "int") rfl), b_len := He.free_ok X G (cd.fact 42 (f := .free "len") rfl), b_range := He.free_ok X G (cd.fact 43 (f := .free "range") rfl), b_all := He.free_ok X G (cd.fact 44 (f := .free "all") rfl), b_any := He.free_ok X G (cd.fact 45 (f := .free "any") rfl), b_list := He.free_ok X G (cd.fact 46 (f := .free "list") rfl), b_tuple := He.free_ok X G (cd.fact 47 (f := .free "tuple") rfl), b_isinstance := He.free_ok X G (cd.fact 48 (f := .free "isinstance") rfl), b_repr := He.free_ok X G (cd.fact 49 (f := .free "repr") rfl), b_zip := He.free_ok X G (cd.fact 50 (f := .free "zip") rfl), b_str := He.free_ok X G (cd.fact 51 (f := .free "str") rfl), b_sorted := He.free_ok X G (cd.fact 52 (f := .free "sorted") rfl), b_dict := He.free_ok X G (cd.fact 53 (f := .free "dict") rfl), i_gcd := impX_gcd_ok X G mi_gcd },
    f_copied := _, fd_copied := _, D_copied := ⟨F0, g0, b0⟩,
    f_parts_in := _, fd_parts_in := _, D_parts_in := ⟨F1, g1, b1⟩,
    f_put_together := _, fd_put_together := _, D_put_together := ⟨F2, g2, b2⟩,
    f_make_point := _, fd_make_point := _, D_make_point := ⟨F3, g3, b3⟩,
    f_is_before := _, fd_is_before := _, D_is_before := ⟨F4, g4, b4⟩,
    f_code_of := _, fd_code_of := _, D_code_of := ⟨F5, g5, b5⟩,
    f_merged_points := _, fd_merged_points := _, D_merged_points := ⟨F6, g6, b6⟩,
    f_spread := _, fd_spread := _, D_spread := ⟨F7, g7, b7⟩,
    f_between := _, fd_between := _, D_between := ⟨F8, g8, b8⟩,
    f_codes_of := _, fd_codes_of := _, D_codes_of := ⟨F9, g9, b9⟩,
    f_places_of := _, fd_places_of := _, D_places_of := ⟨F10, g10, b10⟩,
    f_support := _, fd_support := _, D_support := ⟨F11, g11, b11⟩,
    f_value_text := _, fd_value_text := _, D_value_text := ⟨F12, g12, b12⟩,
    f_moved := _, fd_moved := _, D_moved := ⟨F13, g13, b13⟩,
    f_led := _, fd_led := _, D_led := ⟨F14, g14, b14⟩,
    f_led_set := _, fd_led_set := _, D_led_set := ⟨F15, g15, b15⟩,
    f_by_texts := _, fd_by_texts := _, D_by_texts := ⟨F16, g16, b16⟩,
    f_replaced := _, fd_replaced := _, D_replaced := ⟨F17, g17, b17⟩,
    f_placed := _, fd_placed := _, D_placed := ⟨F18, g18, b18⟩,
    f_are_alike := _, fd_are_alike := _, D_are_alike := ⟨F19, g19, b19⟩,
    f__law_open_cells := _, fd__law_open_cells := _, D__law_open_cells := ⟨F20, g20, b20⟩,
    f__law_pick := _, fd__law_pick := _, D__law_pick := ⟨F21, g21, b21⟩,
    f__law_point := _, fd__law_point := _, D__law_point := ⟨F22, g22, b22⟩,
    f__law_less := _, fd__law_less := _, D__law_less := ⟨F23, g23, b23⟩,
    f__law_ascending := _, fd__law_ascending := _, D__law_ascending := ⟨F24, g24, b24⟩,
    f__law_gap := _, fd__law_gap := _, D__law_gap := ⟨F25, g25, b25⟩,
    f__law_spread := _, fd__law_spread := _, D__law_spread := ⟨F26, g26, b26⟩,
    f__law_support := _, fd__law_support := _, D__law_support := ⟨F27, g27, b27⟩,
    f__law_text := _, fd__law_text := _, D__law_text := ⟨F28, g28, b28⟩,
    f__law_moved := _, fd__law_moved := _, D__law_moved := ⟨F29, g29, b29⟩,
    f__law_ends := _, fd__law_ends := _, D__law_ends := ⟨F30, g30, b30⟩,
    f__law_placed := _, fd__law_placed := _, D__law_placed := ⟨F31, g31, b31⟩,
    f__law_alike := _, fd__law_alike := _, D__law_alike := ⟨F32, g32, b32⟩,
    f__law_bundle := _, fd__law_bundle := _, D__law_bundle := ⟨F33, g33, b33⟩,
    f__law_made := _, fd__law_made := _, D__law_made := ⟨F34, g34, b34⟩,
    f__law_draw_points := _, fd__law_draw_points := _, D__law_draw_points := ⟨F35, g35, b35⟩,
    f__law_draw_value := _, fd__law_draw_value := _, D__law_draw_value := ⟨F36, g36, b36⟩,
    f__law_draw_set := _, fd__law_draw_set := _, D__law_draw_set := ⟨F37, g37, b37⟩,
    f__law_due := _, fd__law_due := _, D__law_due := ⟨F38, g38, b38⟩,
    f_law := _, fd_law := _, D_law := ⟨F39, g39, b39⟩ }
  have tA : TabsAt K h (tfX.map (He.cT K)) := by
    refine ⟨fun p hp => ?_, fun p hp => ?_, fun p hp => ?_⟩ <;> obtain ⟨q, hq, rfl⟩ := List.mem_map.mp hp
    · exact c.empty q hq
    · exact c.out q hq
    · exact PySem.W.codeHd_of_K X (c.hd q hq)
  obtain ⟨cc, cda, kV, doc, pm, ct, an, R⟩ := err_ok (P := PySem.Challenge.rw_gapwise_k23_moves_between_alike_values.prog) X G (cy.o _ (List.mem_cons_self ..)) (cy.b _ (List.mem_cons_self ..)) topSup rfl ⟨_, rfl, rfl⟩
  have bI : BindsI K (PySem.W.fnX "__init__" "BadMove.__init__" (C8.fnArgs sIniM) (C8.fnBody sIniM) (C8.fnScope sIniM) [(("__class__" : Str), cc)] .none kV doc pm an (.ref cda) ct) := Binds.all fun us hl => match us, hl with | [_], _ => rfl
  obtain ⟨fdA, EA⟩ := cd.def_ 40 (d := d_alk) rfl
  obtain ⟨AD⟩ := alk_mk EA (He.glo_ok X G (cd.fact (54 + 0) (f := .glo "alike_moves") rfl)) mx0
  exact lawX2 X W AD R bI F16 F29 F34 (fun s v => (FunD.bindsA (ps := ["script"]) E39 fun _ _ _ _ _ _ us hl => match us, hl with | [_], _ => rfl) s [v] rfl) tA ne0_1 ne0_2 ne1_2
abbrev RX : PySem.W.OpenRow := PySem.W.OpenLaw.row PySem.Challenge.rw_gapwise_k23_moves_between_alike_values
abbrev hkX : PySem.W.Hook := hookY 4 faX fnX tfX exX esX fileX
def obX (s : PySem.W.SharedT) : AlY := obsY 4 faX fnX tfX exX esX fileX (HandSHeadRun.getT s)
theorem obX_eq (s : PySem.W.SharedT) : obX s = hkX.obs s.abs := obsY_eq 4 faX fnX tfX exX esX fileX (HandSHeadRun.getT_eq s)
def looseX : List Str := [("LineError" : Str), ("BadMove" : Str), ("BadPoint" : Str), ("gcd" : Str), ("alike_moves" : Str), ("copied" : Str), ("parts_in" : Str), ("put_together" : Str), ("make_point" : Str), ("is_before" : Str), ("code_of" : Str), ("merged_points" : Str), ("spread" : Str), ("between" : Str), ("codes_of" : Str), ("places_of" : Str), ("support" : Str), ("value_text" : Str), ("moved" : Str), ("led" : Str), ("led_set" : Str), ("by_texts" : Str), ("replaced" : Str), ("placed" : Str), ("are_alike" : Str), ("_law_open_cells" : Str), ("_law_pick" : Str), ("_law_point" : Str), ("_law_less" : Str), ("_law_ascending" : Str), ("_law_gap" : Str), ("_law_spread" : Str), ("_law_support" : Str), ("_law_text" : Str), ("_law_moved" : Str), ("_law_ends" : Str), ("_law_placed" : Str), ("_law_alike" : Str), ("_law_bundle" : Str), ("_law_made" : Str), ("_law_draw_points" : Str), ("_law_draw_value" : Str), ("_law_draw_set" : Str), ("_law_due" : Str)]
abbrev qX : Program := PySem.W.view RX.prog [51]
theorem runX (w : World) : HandSHeadRun.RunEqI RX qX hkX obX 9000 looseX w := by
  unfold HandSHeadRun.RunEqI
  kernel_rfl
end G
open PySem PySem.W PySem.Calls PyProof.Rows
theorem PySem.Challenge.cw_gapwise_k23_moves_between_alike_values_holds : PySem.Challenge.rw_gapwise_k23_moves_between_alike_values.Holds := by
  w_on; o_law
  refine HandSHeadRun.head_imp (r := G.RX) (q := G.qX) (H := G.hkX) (ob := G.obX) (M := 9000) (loose := G.looseX) (d := HandSHeadRun.topDef G.RX.prog 51) (kwd := []) G.obX_eq G.runX (by kernel_rfl) (by kernel_rfl) (by kernel_rfl) (by rfl) (by first | assumption | decide +kernel) (by decide +kernel) ⟨rfl, rfl, rfl, rfl, rfl, by decide +kernel⟩ ?hw ?hc
  case hw => w_witness2
  case hc =>
    refine G.walkGT (l := PySem.Challenge.rw_gapwise_k23_moves_between_alike_values) (n := 63) (k := 22) (x := "script") rfl (by decide) (by kernel_rfl) ⟨rfl, by decide, by decide⟩ ?F
    intro w mg fa h Y GX hmg0
    obtain ⟨K, KX, c⟩ := Y
    have hmg : mg ("law" : PySem.Str) = some (.ref fa) := by
      have e : (HandSHeadRun.topDef G.RX.prog 51).name = ("law" : PySem.Str) := by kernel_rfl
      rw [← e]
      exact hmg0
    exact ⟨K, KX, G.lawX KX GX hmg c⟩
