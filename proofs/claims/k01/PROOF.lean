import PyProof.Rows.All
import Wide.All
import OpenK.AllK
import Wide.FinOn
import HandS.ForMost
import HandS.Gcd
import HandS.Wide
import HandS.TupAny
import HandS.Deep
import HandS.IsInst
import HandS.Style
import HandS.Flow
import HandS.Evl
import PyProof.ReprRoads
import HandS.Iter
import KE.GoesEnum
import KE.GoesMore
import KE.KExcSuper
import HandS.NestedK
import HandS.ForExc
import HandS.ExcInit
import HandS.ExcField
import KE.KExcInit
import HandS.DictComp
import HandS.Conv
import PySem.Challenge.RW_gapwise_k01_points
set_option Elab.async false
set_option linter.all false
set_option maxRecDepth 100000
namespace G
open PySem L2

/-! ### data: trees without lists and dicts, without bools -/
mutual
def tupD : PyData → Bool
  | .none => true
  | .bool _ => true
  | .int _ => true
  | .str _ => true
  | .list _ => false
  | .tuple xs => tupDs xs
  | .dict _ => false
def tupDs : List PyData → Bool
  | [] => true
  | x :: xs => tupD x && tupDs xs
end
def immut : HO → Bool
  | .tup _ => true
  | .frz _ (.tup _) => true
  | _ => false
/-- tuples stay -/
def Tk (H H' : Hp) : Prop := ∀ b o, H b = some o → immut o = true → H' b = some o
/-- all stays but what is at M -/
def Kp (M : Addr → Prop) (H H' : Hp) : Prop := ∀ b o, H b = some o → ¬ M b → H' b = some o
def M0 : Addr → Prop := fun _ => False
theorem Kp.refl {M : Addr → Prop} (H : Hp) : Kp M H H := fun _ _ h _ => h
theorem Kp.trans {M : Addr → Prop} {H H1 H2 : Hp} (a : Kp M H H1) (b : Kp M H1 H2) : Kp M H H2 := fun c o h n => b c o (a c o h n) n
theorem Kp.new {M : Addr → Prop} {H : Hp} {p : Addr} {o : HO} (h : H p = none) : Kp M H (upd H p o) := fun a u e _ => by
  rw [upd_ne (ne_of_none e h)]; exact e
theorem Kp.at {M : Addr → Prop} {H H1 : Hp} {p : Addr} {o : HO} (h : Kp M H H1) (n : H p = none) : Kp M H (upd H1 p o) := fun a u e m => by
  rw [upd_ne (ne_of_none e n)]; exact h a u e m
theorem Kp.of0 {M : Addr → Prop} {H H' : Hp} (h : Kp M0 H H') : Kp M H H' := fun b o e _ => h b o e (fun z => z)
theorem Kp.same {H H' : Hp} (h : Kp M0 H H') : Same H H' := fun b o e => h b o e (fun z => z)
theorem Kp.mono {M N : Addr → Prop} {H H' : Hp} (h : Kp M H H') (hs : ∀ b, M b → N b) : Kp N H H' := fun b o e n => h b o e (fun m => n (hs b m))
theorem Tk.refl (H : Hp) : Tk H H := fun _ _ h _ => h
theorem Tk.trans {H H1 H2 : Hp} (a : Tk H H1) (b : Tk H1 H2) : Tk H H2 := fun c o h i => b c o (a c o h i) i
theorem Tk.of0 {H H' : Hp} (h : Kp M0 H H') : Tk H H' := fun b o e _ => h b o e (fun z => z)
theorem Tk.new {H : Hp} {p : Addr} {o : HO} (h : H p = none) : Tk H (upd H p o) := Tk.of0 (Kp.new h)
theorem Tk.at {H : Hp} {p : Addr} {o u : HO} (h : H p = some u) (hi : immut u = false) : Tk H (upd H p o) := fun b v e i => by
  by_cases hb : b = p
  · subst hb; rw [e] at h; cases h; rw [hi] at i; cases i
  · rw [upd_ne hb]; exact e
theorem Tk.lst {H : Hp} {p : Addr} {xs : List V} {o : HO} (h : H p = some (.lst xs)) : Tk H (upd H p o) := Tk.at h rfl
theorem Kp.tk {M : Addr → Prop} {H H' : Hp} (h : Kp M H H') (hm : ∀ b o, M b → H b = some o → immut o = false) : Tk H H' := fun b o e i =>
  h b o e fun m => by rw [hm b o m e] at i; cases i

theorem sqT_tk {K : PySem.W.Frag} {H H' : Hp} {a : Addr} {xs : List V} (t : Tk H H') (h : SqT K H a xs) : SqT K H' a xs := by
  rcases h with (h | ⟨o, h⟩) | h
  · exact .inl (.inl (t _ _ h rfl))
  · exact .inl (.inr ⟨o, t _ _ h rfl⟩)
  · exact .inr h
mutual
theorem dp_tk {K : PySem.W.Frag} {H H' : Hp} (t : Tk H H') : ∀ (d : PyData) (v : V), tupD d = true → Dp K H v d → Dp K H' v d
  | .none, _, _, h => by cases h; exact .non
  | .bool b, _, _, h => by cases h; exact .bl b
  | .int i, _, _, h => by cases h; exact .int i
  | .str x, _, _, h => by cases h; exact .str x
  | .list _, _, hd, _ => by simp [tupD] at hd
  | .tuple xs, _, hd, h => by
    cases h with
    | tup hs ha => exact .tup (sqT_tk t hs) (dps_tk t xs _ (by simpa [tupD] using hd) ha)
  | .dict _, _, hd, _ => by simp [tupD] at hd
theorem dps_tk {K : PySem.W.Frag} {H H' : Hp} (t : Tk H H') : ∀ (ds : List PyData) (vs : List V), tupDs ds = true → DpAll K H vs ds → DpAll K H' vs ds
  | [], _, _, h => by cases h; exact .nil
  | d :: ds, _, hd, h => by
    have q : tupD d = true ∧ tupDs ds = true := by simpa [tupDs] using hd
    cases h with
    | cons h1 h2 => exact .cons (dp_tk t d _ q.1 h1) (dps_tk t ds _ q.2 h2)
end
theorem tupDs_all : ∀ {ds : List PyData}, tupDs ds = true ↔ ∀ d ∈ ds, tupD d = true
  | [] => by simp [tupDs]
  | d :: ds => by simp [tupDs, tupDs_all (ds := ds)]
theorem dps_len {K : PySem.W.Frag} {H : Hp} : ∀ {vs : List V} {ds : List PyData}, DpAll K H vs ds → vs.length = ds.length
  | _, _, .nil => rfl
  | _, _, .cons _ t => by simp [dps_len t]
theorem dps_get {K : PySem.W.Frag} {H : Hp} : ∀ {vs : List V} {ds : List PyData} {i : Nat} {v : V}, DpAll K H vs ds → vs[i]? = some v → ∃ d, ds[i]? = some d ∧ Dp K H v d
  | _, _, _, _, .nil, e => by simp at e
  | _, _, 0, v, .cons h _, e => by simp at e; subst e; exact ⟨_, rfl, h⟩
  | _, _, i + 1, v, .cons _ t, e => by
    obtain ⟨d, h1, h2⟩ := dps_get (i := i) t (by simpa using e)
    exact ⟨d, by simpa using h1, h2⟩
theorem dps_get' {K : PySem.W.Frag} {H : Hp} : ∀ {vs : List V} {ds : List PyData} {i : Nat} {d : PyData}, DpAll K H vs ds → ds[i]? = some d → ∃ v, vs[i]? = some v ∧ Dp K H v d
  | _, _, _, _, .nil, e => by simp at e
  | _, _, 0, d, .cons h _, e => by simp at e; subst e; exact ⟨_, rfl, h⟩
  | _, _, i + 1, d, .cons _ t, e => by
    obtain ⟨v, h1, h2⟩ := dps_get' (i := i) t (by simpa using e)
    exact ⟨v, by simpa using h1, h2⟩
theorem dps_app {K : PySem.W.Frag} {H : Hp} : ∀ {vs ws : List V} {ds es : List PyData}, DpAll K H vs ds → DpAll K H ws es → DpAll K H (vs ++ ws) (ds ++ es)
  | _, _, _, _, .nil, h => h
  | _, _, _, _, .cons h t, h' => .cons h (dps_app t h')
theorem dps_one {K : PySem.W.Frag} {H : Hp} {v : V} {d : PyData} (h : Dp K H v d) : DpAll K H [v] [d] := .cons h .nil
theorem dps_take {K : PySem.W.Frag} {H : Hp} : ∀ {vs : List V} {ds : List PyData} (n : Nat), DpAll K H vs ds → DpAll K H (vs.take n) (ds.take n)
  | _, _, 0, _ => by simp; exact .nil
  | _, _, n + 1, .nil => by simp; exact .nil
  | _, _, n + 1, .cons h t => by simp; exact .cons h (dps_take n t)
theorem dps_drop {K : PySem.W.Frag} {H : Hp} : ∀ {vs : List V} {ds : List PyData} (n : Nat), DpAll K H vs ds → DpAll K H (vs.drop n) (ds.drop n)
  | _, _, 0, h => by simpa using h
  | _, _, n + 1, .nil => by simp; exact .nil
  | _, _, n + 1, .cons h t => by simpa using dps_drop n t
theorem dps_ints {K : PySem.W.Frag} {H : Hp} : ∀ (l : List Int), DpAll K H (l.map V.int) (l.map PyData.int)
  | [] => .nil
  | i :: l => .cons (.int i) (dps_ints l)

/-! ### points -/
abbrev Pt := Int × Int
def ptD (x : Pt) : PyData := .tuple [.int x.1, .int x.2]
theorem ptD_tup (x : Pt) : tupD (ptD x) = true := rfl
theorem ptDs_tup (l : List Pt) : tupDs (l.map ptD) = true := tupDs_all.mpr fun d h => by
  obtain ⟨x, _, rfl⟩ := List.mem_map.mp h; rfl
theorem ptD_shaped (x : Pt) : SeqAt.shaped (ptD x) = true := by
  simp [SeqAt.shaped, ptD, PyData.canLay0, PyData.canLayAll0, PyData.depth, PyData.depthAll]
theorem ptD_eqv (x y : Pt) : PyData.eqv (ptD x) (ptD y) = decide (x = y) := by
  obtain ⟨a, b⟩ := x
  obtain ⟨c, d⟩ := y
  simp only [ptD, PyData.eqv, PyData.eqvAll, Bool.and_true]
  rw [Bool.eq_iff_iff]
  simp
theorem pt_mk {K : PySem.W.Frag} {H : Hp} {a : Addr} {p q : Int} (h : SqT K H a [.int p, .int q]) : Dp K H (.ref a) (ptD (p, q)) := .tup h (.cons (.int p) (.cons (.int q) .nil))
theorem pt_of {K : PySem.W.Frag} {H : Hp} {v : V} {x : Pt} (h : Dp K H v (ptD x)) : ∃ a, v = .ref a ∧ SqT K H a [.int x.1, .int x.2] := by
  cases h with
  | tup hs ha =>
    cases ha with
    | cons h1 t =>
      cases h1
      cases t with
      | cons h2 t =>
        cases h2
        cases t
        exact ⟨_, rfl, hs⟩

/-! ### rules -/
section
variable {X : Cx}
def rMulK : R2 := rI IntMulOk fun i j => .int (i * j)
theorem op_mulK : OpR X (binaryOp .Mult) rMulK := opI fun _ _ _ _ _ _ _ hc q => PyProof.Rows.mul_int q hc
theorem mulOk_r {i j : Int} (h1 : -(2 ^ 64) < j) (h2 : j < 2 ^ 64) : IntMulOk i j := .of_right (intBits_le_64 h1 h2)
theorem mulOk_l {i j : Int} (h1 : -(2 ^ 64) < i) (h2 : i < 2 ^ 64) : IntMulOk i j := .of_left (intBits_le_64 h1 h2)
theorem mulOk_w {i j : Int} {a b : Nat} (ha : i.natAbs < 2 ^ a) (hb : j.natAbs < 2 ^ b) (h0 : 0 < a) (h1 : 0 < b) (h : a + b ≤ 1000000) : IntMulOk i j := (wide_mul ha hb h0 h1 h).ok
end
end G
set_option Elab.async false
set_option linter.all false
set_option maxRecDepth 100000
namespace G
open PySem L2

theorem wipe1 (σ : L2.St) (s : Nat) (x : Option V) : wipe ((wipe σ [s]).set s x) [s] = wipe σ [s] := by
  show ((σ.set s none).set s x).set s none = σ.set s none
  rw [List.set_set, List.set_set]

section
variable {K : PySem.W.Frag} {s : Nat} {te : TE} {tt : TT} {σ : L2.St} {H1 : Hp} {D : Addr} {Q : VK}

/-- a list of n elements, made over a range, each by a step that may change what is at M and keeps I -/
theorem lcm_range {lo : Int} {n : Nat} (M : Addr → Prop) (I : Hp → Prop) (P : Nat → PyData → Prop) (hD : H1 D = none) (hI : I (upd H1 D (.lst []))) (hMD : ¬ M D) (hn : n < sizeLine)
    (hst : ∀ H vs, I H → I (upd H D (.lst vs))) (ht : ∀ i d, P i d → tupD d = true) (hm : ∀ H b o, I H → M b → H b = some o → immut o = false)
    (hs : ∀ i H, i < n → Kp M H1 H → I H → ∀ Q' : VK, (∀ y H4 d, Kp M H H4 → I H4 → P i d → Dp K H4 y d → Q' y H4) → te ((wipe σ [s]).set s (some (.int (lo + i)))) H Q')
    (hq : ∀ H vs ds, Kp M H1 H → I H → H D = some (.lst vs) → DpAll K H vs ds → ds.length = n → (∀ i d, ds[i]? = some d → P i d) → Q (.ref D) H) :
    ∃ W : Nat → Nat → Hp → Prop, (∃ m, W 0 m (upd H1 D (.lst []))) ∧ ∀ i m H, W i m H →
      ((Itr lo n).stop i H ∧ Q (.ref D) H) ∨ ((Itr lo n).go i H ∧ ∃ Nx : Hp → Prop, (∀ H', Nx H' → ∃ m', m' < m ∧ W (i + 1) m' H') ∧ ∀ x H', (Itr lo n).yld i H x H' → gName s x (wipe σ [s]) H' fun σ2 H2 => wipe σ2 [s] = wipe σ [s] ∧ tYes σ2 H2 fun b H3 =>
        if b = true then te σ2 H3 fun y H4 => ∃ acc, H4 D = some (.lst acc) ∧ acc.length < sizeLine ∧ Nx (upd H4 D (.lst (acc ++ [y]))) else Nx H3) := by
  refine lc_range (Qd := fun H => Q (.ref D) H) (fun i H => ∃ vs ds, Kp M H1 H ∧ I H ∧ H D = some (.lst vs) ∧ DpAll K H vs ds ∧ ds.length = i ∧ ∀ j d, ds[j]? = some d → P j d)
    ⟨[], [], (Kp.refl H1).at hD, hI, upd_same, .nil, rfl, fun j d e => by simp at e⟩ (fun i H hi hp => ?_) (fun H hp => ?_)
  · obtain ⟨vs, ds, k, hi', hd, ha, hl, hP⟩ := hp
    refine ⟨wipe1 σ s _, ?_⟩
    show te _ H _
    refine hs i H hi k hi' _ fun y H4 d k4 i4 p4 d4 => ?_
    have hd4 : H4 D = some (.lst vs) := k4 D _ hd hMD
    have tk : Tk H H4 := k4.tk fun b o m e => hm H b o hi' m e
    have hdu : tupDs ds = true := tupDs_all.mpr fun z hz => by
      obtain ⟨j, hj⟩ := List.getElem?_of_mem hz
      exact ht j z (hP j z hj)
    refine ⟨vs, hd4, ?_, vs ++ [y], ds ++ [d], (k.trans k4).at hD, hst _ _ i4, upd_same, ?_, by simp [hl], fun j z hz => ?_⟩
    · rw [dps_len ha, hl]; omega
    · exact dps_app (dps_tk (tk.trans (Tk.lst hd4)) _ _ hdu ha) (dps_one (dp_tk (Tk.lst hd4) d y (ht _ _ p4) d4))
    · by_cases hj : j < ds.length
      · rw [List.getElem?_append_left hj] at hz; exact hP j z hz
      · rw [List.getElem?_append_right (by omega)] at hz
        have e0 : j - ds.length = 0 := by
          cases h0 : j - ds.length with
          | zero => rfl
          | succ k => rw [h0] at hz; simp at hz
        rw [e0] at hz
        simp at hz
        subst hz
        have : j = i := by omega
        rw [this]; exact p4
  · obtain ⟨vs, ds, k, hi', hd, ha, hl, hP⟩ := hp
    exact hq H vs ds k hi' hd ha hl hP

/-- .. by a step that changes nothing, each element known -/
theorem lcp_range {lo : Int} {n : Nat} (dd : Nat → PyData) (hD : H1 D = none) (hn : n < sizeLine) (ht : ∀ i, i < n → tupD (dd i) = true)
    (hs : ∀ i H, i < n → Kp M0 H1 H → ∀ Q' : VK, (∀ y H4, Kp M0 H H4 → Dp K H4 y (dd i) → Q' y H4) → te ((wipe σ [s]).set s (some (.int (lo + i)))) H Q')
    (hq : ∀ H vs, Kp M0 H1 H → H D = some (.lst vs) → DpAll K H vs ((List.range n).map dd) → Q (.ref D) H) :
    ∃ W : Nat → Nat → Hp → Prop, (∃ m, W 0 m (upd H1 D (.lst []))) ∧ ∀ i m H, W i m H →
      ((Itr lo n).stop i H ∧ Q (.ref D) H) ∨ ((Itr lo n).go i H ∧ ∃ Nx : Hp → Prop, (∀ H', Nx H' → ∃ m', m' < m ∧ W (i + 1) m' H') ∧ ∀ x H', (Itr lo n).yld i H x H' → gName s x (wipe σ [s]) H' fun σ2 H2 => wipe σ2 [s] = wipe σ [s] ∧ tYes σ2 H2 fun b H3 =>
        if b = true then te σ2 H3 fun y H4 => ∃ acc, H4 D = some (.lst acc) ∧ acc.length < sizeLine ∧ Nx (upd H4 D (.lst (acc ++ [y]))) else Nx H3) := by
  refine lcm_range (K := K) M0 (fun _ => True) (fun i d => i < n ∧ d = dd i) hD trivial (fun z => z) hn (fun _ _ _ => trivial) (fun i d h => by rw [h.2]; exact ht i h.1) (fun _ _ _ _ m _ => m.elim)
    (fun i H hi k _ Q' q => hs i H hi k Q' fun y H4 k4 d4 => q y H4 _ k4 trivial ⟨hi, rfl⟩ d4) (fun H vs ds k _ hd ha hl hP => ?_)
  refine hq H vs k hd ?_
  have e : ds = (List.range n).map dd := by
    apply List.ext_getElem?
    intro j
    by_cases hj : j < n
    · have h1 : ds[j]? = some ds[j] := List.getElem?_eq_getElem (by omega)
      rw [h1, (hP j _ h1).2]
      simp [hj]
    · rw [List.getElem?_eq_none (by omega), List.getElem?_eq_none (by simp; omega)]
  rw [← e]; exact ha

theorem filter_snoc {α : Type} (p : α → Bool) (l : List α) (x : α) : (l ++ [x]).filter p = l.filter p ++ (if p x = true then [x] else []) := by
  rw [List.filter_append]
  congr 1
  by_cases h : p x = true
  · simp [h]
  · simp [h]
theorem take_snoc {α : Type} {l : List α} {i : Nat} {x : α} (h : l[i]? = some x) : l.take (i + 1) = l.take i ++ [x] := by
  rw [List.take_add_one, h]; rfl

/-- the body of a turn over a list or a tuple of trees -/
theorem turn_ok {ds : List PyData} {b : PyData → Bool} {f : PyData → PyData} {i : Nat} {x : V} {d : PyData} {H : Hp} {Nx : Hp → Prop} (hD : H1 D = none) (hn : ds.length < sizeLine) (ht : ∀ d ∈ ds, b d = true → tupD (f d) = true)
    (hi : ds[i]? = some d) (hx : Dp K H x d) (hp : ∃ vs, Kp M0 H1 H ∧ H D = some (.lst vs) ∧ DpAll K H vs (((ds.take i).filter b).map f))
    (htt : ∀ Q' : Bool → Hp → Prop, (∀ H3, Kp M0 H H3 → Q' (b d) H3) → tt ((wipe σ [s]).set s (some x)) H Q')
    (hte : b d = true → ∀ H3, Kp M0 H H3 → ∀ Q' : VK, (∀ y H4, Kp M0 H3 H4 → Dp K H4 y (f d) → Q' y H4) → te ((wipe σ [s]).set s (some x)) H3 Q')
    (hN : ∀ H', (∃ vs, Kp M0 H1 H' ∧ H' D = some (.lst vs) ∧ DpAll K H' vs (((ds.take (i + 1)).filter b).map f)) → Nx H') :
    gName s x (wipe σ [s]) H fun σ2 H2 => wipe σ2 [s] = wipe σ [s] ∧ tt σ2 H2 fun c H3 =>
        if c = true then te σ2 H3 fun y H4 => ∃ acc, H4 D = some (.lst acc) ∧ acc.length < sizeLine ∧ Nx (upd H4 D (.lst (acc ++ [y]))) else Nx H3 := by
  obtain ⟨vs, k, hd, ha⟩ := hp
  refine ⟨wipe1 σ s _, ?_⟩
  refine htt _ fun H3 k3 => ?_
  have hm : d ∈ ds := List.mem_of_getElem? hi
  have hdu : tupDs (((ds.take i).filter b).map f) = true := tupDs_all.mpr fun z hz => by
    obtain ⟨y, hy, rfl⟩ := List.mem_map.mp hz
    obtain ⟨h1, h2⟩ := List.mem_filter.mp hy
    exact ht y (List.mem_of_mem_take h1) h2
  have hd3 : H3 D = some (.lst vs) := k3 D _ hd (fun z => z)
  have hlen : vs.length ≤ ds.length := by
    rw [dps_len ha, List.length_map]
    exact Nat.le_trans (List.length_filter_le _ _) (by simp; omega)
  refine ite2 (fun hb => ?_) (fun hb => ?_)
  · refine hte hb H3 k3 _ fun y H4 k4 d4 => ?_
    have hd4 : H4 D = some (.lst vs) := k4 D _ hd3 (fun z => z)
    refine ⟨vs, hd4, by omega, hN _ ⟨vs ++ [y], ((k.trans k3).trans k4).at hD, upd_same, ?_⟩⟩
    rw [take_snoc hi, filter_snoc, if_pos hb, List.map_append]
    exact dps_app (dps_tk ((Tk.of0 (k3.trans k4)).trans (Tk.lst hd4)) _ _ hdu ha) (dps_one (dp_tk (Tk.lst hd4) _ y (ht d hm hb) d4))
  · refine hN _ ⟨vs, k.trans k3, hd3, ?_⟩
    rw [take_snoc hi, filter_snoc, if_neg hb, List.append_nil]
    exact dps_tk (Tk.of0 k3) _ _ hdu ha

theorem lcp_list {a : Addr} {xs : List V} (ds : List PyData) (b : PyData → Bool) (f : PyData → PyData) (hD : H1 D = none) (hn : ds.length < sizeLine) (hx : SqL K H1 a xs) (hxs : DpAll K H1 xs ds) (hdu : tupDs ds = true)
    (ht : ∀ d ∈ ds, b d = true → tupD (f d) = true)
    (htt : ∀ (i : Nat) (d : PyData) (x : V) (H : Hp), ds[i]? = some d → Dp K H x d → Kp M0 H1 H → ∀ Q' : Bool → Hp → Prop, (∀ H3, Kp M0 H H3 → Q' (b d) H3) → tt ((wipe σ [s]).set s (some x)) H Q')
    (hte : ∀ (i : Nat) (d : PyData) (x : V) (H : Hp), ds[i]? = some d → b d = true → Dp K H x d → Kp M0 H1 H → ∀ Q' : VK, (∀ y H4, Kp M0 H H4 → Dp K H4 y (f d) → Q' y H4) → te ((wipe σ [s]).set s (some x)) H Q')
    (hq : ∀ H vs, Kp M0 H1 H → H D = some (.lst vs) → DpAll K H vs ((ds.filter b).map f) → Q (.ref D) H) :
    ∃ W : Nat → Nat → Hp → Prop, (∃ m, W 0 m (upd H1 D (.lst []))) ∧ ∀ i m H, W i m H →
      ((Itl K a).stop i H ∧ Q (.ref D) H) ∨ ((Itl K a).go i H ∧ ∃ Nx : Hp → Prop, (∀ H', Nx H' → ∃ m', m' < m ∧ W (i + 1) m' H') ∧ ∀ x H', (Itl K a).yld i H x H' → gName s x (wipe σ [s]) H' fun σ2 H2 => wipe σ2 [s] = wipe σ [s] ∧ tt σ2 H2 fun b H3 =>
        if b = true then te σ2 H3 fun y H4 => ∃ acc, H4 D = some (.lst acc) ∧ acc.length < sizeLine ∧ Nx (upd H4 D (.lst (acc ++ [y]))) else Nx H3) := by
  have hl := dps_len hxs
  refine lc_list (xs := xs) (Qd := fun H => Q (.ref D) H) (fun i H => ∃ vs, Kp M0 H1 H ∧ H D = some (.lst vs) ∧ DpAll K H vs (((ds.take i).filter b).map f))
    ⟨[], (Kp.refl H1).at hD, upd_same, by simp; exact .nil⟩ (fun i H _ ⟨_, k, _, _⟩ => k.same.seq hx) (fun i x H hi hp => ?_) (fun H hp => ?_)
  · obtain ⟨vs, k, hd, ha⟩ := id hp
    obtain ⟨d, e1, e2⟩ := dps_get (dps_tk (Tk.of0 k) _ _ hdu hxs) hi
    exact turn_ok hD hn ht e1 e2 hp (htt i d x H e1 e2 k) (fun hb H3 k3 Q' q => hte i d x H3 e1 hb (dp_tk (Tk.of0 k3) d x (tupDs_all.mp hdu d (List.mem_of_getElem? e1)) e2) (k.trans k3) Q' q) fun H' z => z
  · obtain ⟨vs, k, hd, ha⟩ := hp
    rw [hl, List.take_length] at ha
    exact hq H vs k hd ha

theorem lcp_tup {a : Addr} {xs : List V} (ds : List PyData) (b : PyData → Bool) (f : PyData → PyData) (hD : H1 D = none) (hn : ds.length < sizeLine) (hx : SqT K H1 a xs) (hxs : DpAll K H1 xs ds) (hdu : tupDs ds = true)
    (ht : ∀ d ∈ ds, b d = true → tupD (f d) = true)
    (htt : ∀ (i : Nat) (d : PyData) (x : V) (H : Hp), ds[i]? = some d → Dp K H x d → Kp M0 H1 H → ∀ Q' : Bool → Hp → Prop, (∀ H3, Kp M0 H H3 → Q' (b d) H3) → tt ((wipe σ [s]).set s (some x)) H Q')
    (hte : ∀ (i : Nat) (d : PyData) (x : V) (H : Hp), ds[i]? = some d → b d = true → Dp K H x d → Kp M0 H1 H → ∀ Q' : VK, (∀ y H4, Kp M0 H H4 → Dp K H4 y (f d) → Q' y H4) → te ((wipe σ [s]).set s (some x)) H Q')
    (hq : ∀ H vs, Kp M0 H1 H → H D = some (.lst vs) → DpAll K H vs ((ds.filter b).map f) → Q (.ref D) H) :
    ∃ W : Nat → Nat → Hp → Prop, (∃ m, W 0 m (upd H1 D (.lst []))) ∧ ∀ i m H, W i m H →
      ((Itt K a).stop i H ∧ Q (.ref D) H) ∨ ((Itt K a).go i H ∧ ∃ Nx : Hp → Prop, (∀ H', Nx H' → ∃ m', m' < m ∧ W (i + 1) m' H') ∧ ∀ x H', (Itt K a).yld i H x H' → gName s x (wipe σ [s]) H' fun σ2 H2 => wipe σ2 [s] = wipe σ [s] ∧ tt σ2 H2 fun b H3 =>
        if b = true then te σ2 H3 fun y H4 => ∃ acc, H4 D = some (.lst acc) ∧ acc.length < sizeLine ∧ Nx (upd H4 D (.lst (acc ++ [y]))) else Nx H3) := by
  have hl := dps_len hxs
  refine lc_tup (xs := xs) (Qd := fun H => Q (.ref D) H) (fun i H => ∃ vs, Kp M0 H1 H ∧ H D = some (.lst vs) ∧ DpAll K H vs (((ds.take i).filter b).map f))
    ⟨[], (Kp.refl H1).at hD, upd_same, by simp; exact .nil⟩ (fun i H _ ⟨_, k, _, _⟩ => sqT_tk (Tk.of0 k) hx) (fun i x H hi hp => ?_) (fun H hp => ?_)
  · obtain ⟨vs, k, hd, ha⟩ := id hp
    obtain ⟨d, e1, e2⟩ := dps_get (dps_tk (Tk.of0 k) _ _ hdu hxs) hi
    exact turn_ok hD hn ht e1 e2 hp (htt i d x H e1 e2 k) (fun hb H3 k3 Q' q => hte i d x H3 e1 hb (dp_tk (Tk.of0 k3) d x (tupDs_all.mp hdu d (List.mem_of_getElem? e1)) e2) (k.trans k3) Q' q) fun H' z => z
  · obtain ⟨vs, k, hd, ha⟩ := hp
    rw [hl, List.take_length] at ha
    exact hq H vs k hd ha
end

theorem while_at {c : TT} {tb : TS} {D : Ends} {σ : L2.St} {H : Hp} (Pv : L2.St → Hp → Prop) (μ : L2.St → Hp → Nat) (h0 : Pv σ H)
    (hs : ∀ σ H, Pv σ H → c σ H fun b H1 => if b = true then ∃ N : L2.St → Hp → Prop, (∀ σ' H', N σ' H' → Pv σ' H' ∧ μ σ' H' < μ σ H) ∧ tb { D with nx := N, ct := N, bk := D.nx } σ H1 else D.nx σ H1) : tWhile c tb D σ H := by
  refine ⟨fun m σ H => m = μ σ H ∧ Pv σ H, ⟨_, rfl, h0⟩, ?_⟩
  rintro m σ H ⟨rfl, p⟩
  have e : (fun (b : Bool) (H1 : Hp) => if b = true then ∃ N : L2.St → Hp → Prop, (∀ σ' H', N σ' H' → ∃ m', m' < μ σ H ∧ m' = μ σ' H' ∧ Pv σ' H') ∧ tb { D with nx := N, ct := N, bk := D.nx } σ H1 else D.nx σ H1) =
      (fun (b : Bool) (H1 : Hp) => if b = true then ∃ N : L2.St → Hp → Prop, (∀ σ' H', N σ' H' → Pv σ' H' ∧ μ σ' H' < μ σ H) ∧ tb { D with nx := N, ct := N, bk := D.nx } σ H1 else D.nx σ H1) := by
    funext b H1
    congr 1
    refine propext (exists_congr fun N => and_congr_left fun _ => ⟨fun h σ' H' n => ?_, fun h σ' H' n => ?_⟩)
    · obtain ⟨m', l, rfl, q⟩ := h σ' H' n
      exact ⟨q, l⟩
    · exact ⟨_, (h σ' H' n).2, rfl, (h σ' H' n).1⟩
  have q := hs σ H p
  rw [← e] at q
  exact q

/-! ### comprehensions whose source has been worked out -/
section
variable {K : PySem.W.Frag} {s : Nat} {te : TE} {tt : TT} {σ : L2.St} {H H1 : Hp} {Q : VK}
def LcIt (J : It) (s : Nat) (tt : TT) (te : TE) (σ : L2.St) (Q : VK) (H1 : Hp) : Prop := ∀ D, H1 D = none →
    ∃ W : Nat → Nat → Hp → Prop, (∃ m, W 0 m (upd H1 D (.lst []))) ∧ ∀ i m H, W i m H →
      (J.stop i H ∧ Q (.ref D) H) ∨ (J.go i H ∧ ∃ Nx : Hp → Prop, (∀ H', Nx H' → ∃ m', m' < m ∧ W (i + 1) m' H') ∧ ∀ x H', J.yld i H x H' → gName s x (wipe σ [s]) H' fun σ2 H2 => wipe σ2 [s] = wipe σ [s] ∧ tt σ2 H2 fun b H3 =>
        if b = true then te σ2 H3 fun y H4 => ∃ acc, H4 D = some (.lst acc) ∧ acc.length < sizeLine ∧ Nx (upd H4 D (.lst (acc ++ [y]))) else Nx H3)
def LcL (K : PySem.W.Frag) (s : Nat) (tt : TT) (te : TE) (σ : L2.St) (Q : VK) (x : V) (H1 : Hp) : Prop := ∃ a, x = .ref a ∧ (∃ xs, SqL K H1 a xs) ∧ LcIt (Itl K a) s tt te σ Q H1
def LcT (K : PySem.W.Frag) (s : Nat) (tt : TT) (te : TE) (σ : L2.St) (Q : VK) (x : V) (H1 : Hp) : Prop := ∃ a, x = .ref a ∧ (∃ xs, SqT K H1 a xs) ∧ LcIt (Itt K a) s tt te σ Q H1
def LcR (s : Nat) (tt : TT) (te : TE) (σ : L2.St) (Q : VK) (vs : List V) (H1 : Hp) : Prop := ∃ j, vs = [.int j] ∧ -2 ^ 62 ≤ j ∧ j < 2 ^ 62 ∧ LcIt (Itr 0 j.toNat) s tt te σ Q H1
def LcR2 (s : Nat) (tt : TT) (te : TE) (σ : L2.St) (Q : VK) (vs : List V) (H1 : Hp) : Prop := ∃ i j, vs = [.int i, .int j] ∧ (-2 ^ 62 ≤ i ∧ i < 2 ^ 62 ∧ -2 ^ 62 ≤ j ∧ j < 2 ^ 62) ∧ LcIt (Itr i (j - i).toNat) s tt te σ Q H1
theorem tlcL {tl : TE} (h : tl σ H (LcL K s tt te σ Q)) : tLc (iList K tl) (gName s) tt te [s] σ H Q := h
theorem tlcT {tl : TE} (h : tl σ H (LcT K s tt te σ Q)) : tLc (iTup K tl) (gName s) tt te [s] σ H Q := h
theorem tlcR {ta : TA} (h : ta σ H (LcR s tt te σ Q)) : tLc (iRng1 ta) (gName s) tt te [s] σ H Q := h
theorem tlcR2 {ta : TA} (h : ta σ H (LcR2 s tt te σ Q)) : tLc (iRng2 ta) (gName s) tt te [s] σ H Q := h

theorem lcL {a : Addr} {xs : List V} (ds : List PyData) (b : PyData → Bool) (f : PyData → PyData) (hn : ds.length < sizeLine) (hx : SqL K H1 a xs) (hxs : DpAll K H1 xs ds) (hdu : tupDs ds = true)
    (ht : ∀ d ∈ ds, b d = true → tupD (f d) = true)
    (htt : ∀ (i : Nat) (d : PyData) (x : V) (H : Hp), ds[i]? = some d → Dp K H x d → Kp M0 H1 H → ∀ Q' : Bool → Hp → Prop, (∀ H3, Kp M0 H H3 → Q' (b d) H3) → tt ((σ.set s none).set s (some x)) H Q')
    (hte : ∀ (i : Nat) (d : PyData) (x : V) (H : Hp), ds[i]? = some d → b d = true → Dp K H x d → Kp M0 H1 H → ∀ Q' : VK, (∀ y H4, Kp M0 H H4 → Dp K H4 y (f d) → Q' y H4) → te ((σ.set s none).set s (some x)) H Q')
    (hq : ∀ D H vs, H1 D = none → Kp M0 H1 H → H D = some (.lst vs) → DpAll K H vs ((ds.filter b).map f) → Q (.ref D) H) : LcL K s tt te σ Q (.ref a) H1 :=
  ⟨a, rfl, ⟨xs, hx⟩, fun D hD => lcp_list ds b f hD hn hx hxs hdu ht htt hte fun H vs => hq D H vs hD⟩
theorem lcT {a : Addr} {xs : List V} (ds : List PyData) (b : PyData → Bool) (f : PyData → PyData) (hn : ds.length < sizeLine) (hx : SqT K H1 a xs) (hxs : DpAll K H1 xs ds) (hdu : tupDs ds = true)
    (ht : ∀ d ∈ ds, b d = true → tupD (f d) = true)
    (htt : ∀ (i : Nat) (d : PyData) (x : V) (H : Hp), ds[i]? = some d → Dp K H x d → Kp M0 H1 H → ∀ Q' : Bool → Hp → Prop, (∀ H3, Kp M0 H H3 → Q' (b d) H3) → tt ((σ.set s none).set s (some x)) H Q')
    (hte : ∀ (i : Nat) (d : PyData) (x : V) (H : Hp), ds[i]? = some d → b d = true → Dp K H x d → Kp M0 H1 H → ∀ Q' : VK, (∀ y H4, Kp M0 H H4 → Dp K H4 y (f d) → Q' y H4) → te ((σ.set s none).set s (some x)) H Q')
    (hq : ∀ D H vs, H1 D = none → Kp M0 H1 H → H D = some (.lst vs) → DpAll K H vs ((ds.filter b).map f) → Q (.ref D) H) : LcT K s tt te σ Q (.ref a) H1 :=
  ⟨a, rfl, ⟨xs, hx⟩, fun D hD => lcp_tup ds b f hD hn hx hxs hdu ht htt hte fun H vs => hq D H vs hD⟩
/-- without a test -/
theorem htt_yes {ds : List PyData} (i : Nat) (d : PyData) (x : V) (H : Hp) (_ : ds[i]? = some d) (_ : Dp K H x d) (_ : Kp M0 H1 H) (Q' : Bool → Hp → Prop) (q : ∀ H3, Kp M0 H H3 → Q' ((fun _ => true) d) H3) : tYes ((σ.set s none).set s (some x)) H Q' := q H (Kp.refl H)
theorem lcR {n : Nat} (dd : Nat → PyData) (hn : n < sizeLine) (ht : ∀ i, i < n → tupD (dd i) = true)
    (hs : ∀ i H, i < n → Kp M0 H1 H → ∀ Q' : VK, (∀ y H4, Kp M0 H H4 → Dp K H4 y (dd i) → Q' y H4) → te ((σ.set s none).set s (some (.int (i : Nat)))) H Q')
    (hq : ∀ D H vs, H1 D = none → Kp M0 H1 H → H D = some (.lst vs) → DpAll K H vs ((List.range n).map dd) → Q (.ref D) H) : LcR s tYes te σ Q [.int n] H1 := by
  have hz : n < 16777216 := by rw [← sizeLine_eq]; exact hn
  refine ⟨n, rfl, by omega, by omega, fun D hD => ?_⟩
  rw [Int.toNat_natCast]
  exact lcp_range (K := K) dd hD hn ht (fun i H hi k Q' q => by
    have z := hs i H hi k Q' q
    rw [show (0 : Int) + (i : Nat) = (i : Nat) by omega]
    exact z) fun H vs => hq D H vs hD
theorem lcR2 {lo hi : Int} {n : Nat} (e : (hi - lo).toNat = n) (h1 : -1000000 ≤ lo) (h2 : lo ≤ 1000000) (h3 : -1000000 ≤ hi) (h4 : hi ≤ 1000000) (dd : Nat → PyData) (ht : ∀ i, i < n → tupD (dd i) = true)
    (hs : ∀ i H, i < n → Kp M0 H1 H → ∀ Q' : VK, (∀ y H4, Kp M0 H H4 → Dp K H4 y (dd i) → Q' y H4) → te ((σ.set s none).set s (some (.int (lo + (i : Nat))))) H Q')
    (hq : ∀ D H vs, H1 D = none → Kp M0 H1 H → H D = some (.lst vs) → DpAll K H vs ((List.range n).map dd) → Q (.ref D) H) : LcR2 s tYes te σ Q [.int lo, .int hi] H1 := by
  refine ⟨lo, hi, rfl, ⟨by omega, by omega, by omega, by omega⟩, fun D hD => ?_⟩
  rw [e]
  exact lcp_range (K := K) dd hD (by rw [sizeLine_eq]; omega) ht hs fun H vs => hq D H vs hD
end
end G
set_option Elab.async false
set_option linter.all false
set_option maxRecDepth 100000
namespace G
open PySem L2 PySem.Spec PyProof.Rows

/-! ### defs that are promised only where no repr is under way -/
abbrev NoRepr (R : Around) : Prop := R.guards = some []
/-- as FnOk, where no repr is under way -/
structure FnG (P : Program) (w : World) (K : PySem.W.Frag) (mg : Str → Option Value) (base : Heap) (k : Nat) (f : Addr) (fd : FuncData) (ps : List Str) (sp : Sp) : Prop where
  len : ∀ vs H Q E, sp vs H Q E → vs.length = ps.length
  run : ∀ (R : Around) (up : List Env) (z : Shared) (H : Hp) (gs : Args) (ys : List Value) (vs : List V) (Q : VK) (E : XK), NoRepr R → Room k R →
    Env0 P w K mg base R up z H → BindsTo z fd gs (ps.zip ys) → Vals vs ys → sp vs H Q E → codeAny (model P w) R (.call (.ref f) gs) (CR CX0 up P w H z Q E) z
section
variable {P : Program} {w : World} {K : PySem.W.Frag} {mg : Str → Option Value} {base : Heap}
theorem FnG.of {k : Nat} {f : Addr} {fd : FuncData} {ps : List Str} {sp : Sp} (F : FnOk P w K mg base CX0 k f fd ps sp) : FnG P w K mg base k f fd ps sp :=
  ⟨F.len, fun R up z H gs ys vs Q E _ => F.run R up z H gs ys vs Q E⟩
/-- a def by its body, where no repr is under way -/
theorem fnG_ok {x qual : Str} {st : Stmt} {f : Addr} {fd : FuncData} {N ps : List Str} {k : Nat} {sp : Sp} (F : Fun K x qual st f fd) (S : FnScope N ps (defScope st)) (len : ∀ vs H Q E, sp vs H Q E → vs.length = ps.length)
    (body : ∀ (cd : Value) (R : Around) (up : List Env) (z : Shared) (H : Hp) (vs : List V) (Q : VK) (E : XK), NoRepr (R.deeper (envOfC qual (defScope st) z.heap.objs.size f cd)) →
      Room k (R.deeper (envOfC qual (defScope st) z.heap.objs.size f cd)) → sp vs H Q E →
      ∃ t, PSs (cxOf CX0 P w K mg base N qual (defScope st) f cd R up z H E).nox (defBody st) t ∧ t { nx := fun _ H' => Q .non H', rt := Q } (L2.start N vs) H) : FnG P w K mg base (k + 1) f fd ps sp := by
  obtain ⟨oc, od, kV, doc, pm, an, cd, ct, osl, rfl, look, code⟩ := F.ex
  constructor
  · exact len
  intro R up z H gs ys vs Q E nr room e0 bind rel want
  have many := len _ _ _ _ want
  have stays : ∀ b o, base.get? b = some o → z.heap.get? b = some o := fun b o e => (e0.bs b o e).1
  have inK : K.In z.heap := e0.mod.kin.keeps stays
  have places : ∀ y ∈ ps.zip ys, (defScope st).names.lookup y.1 = some .local ∨
      ((defScope st).names.lookup y.1 = some .cell ∧ ((cellsFrom (z.heap.objs.size + 1) (defScope st).names []).lookup y.1).isSome = true) := by
    rintro ⟨n, v⟩ hy
    rcases S.par n (List.of_mem_zip hy).1 with q | q
    · exact Or.inl q
    · exact Or.inr ⟨q, PySem.W.cellsFrom_some _ _ _ (Or.inl q)⟩
  refine codeAny_call_function room.depth (inK _ _ look) rfl S.co S.gen rfl (PySem.W.codeRec_of inK code) (bind _ _ _ _ ?_)
  refine wpAny_newFunctionEnv_cells S.kind places fun env he z1 y => ?_
  subst he
  refine ⟨(e0.mod.nolimit.keeps stays).keeps y.toInCall.keep, codeAny_func ?_⟩
  obtain ⟨t, ht, done⟩ := body cd R up z H vs Q E nr (room.deeper _) want
  have start0 : Inv (cxOf CX0 P w K mg base N qual (defScope st) f cd R up z H E) [] (L2.start N vs) H z1 := inv_start S room.hd e0 many rel y
  refine wpAny_mono (ht.nox.run [] z1 (L2.start N vs) H _ start0 done) (fun fl z2 hz => ?_) fun e z2 hz => hz
  cases fl with
  | ret u =>
    obtain ⟨v, σ', H', J, rv, q⟩ := hz
    exact ⟨v, H', J.os, J.bare, J.base, J.hok, rv, q⟩
  | next =>
    obtain ⟨σ', H', J, q⟩ := hz
    exact ⟨V.non, H', J.os, J.bare, J.base, J.hok, rfl, q⟩
  | brk =>
    obtain ⟨_, _, _, q⟩ := hz
    cases q
  | cont =>
    obtain ⟨_, _, _, q⟩ := hz
    cases q
end
section
variable {X : Cx} {k : Nat} {f : Addr} {fd : FuncData} {ps : List Str} {sp : Sp} {x : Str} {p pos : Pos} {e : Expr} {es : List Expr} {t : TA}
/-- f(..), f such a def -/
theorem peG_call (F : FnG X.prog X.w X.K X.mg X.base k f fd ps sp) (nr : NoRepr X.A) (room : Room k X.A) (hg : Gl X x) (hm : X.mg x = some (.ref f)) (hk : PySem.W.keepIn X.K (.ref f) = true) (hb : Binds X.K fd ps [])
    (ha : PA X (e :: es) t) (hdb : (x == ("__debug__" : Str)) = false := by decide) (he : starEach (e :: es) X.env = (false, eval e X.env) :: starEach es X.env := by rfl) (hpl : (backTo pos (starEach es X.env)).any (·.1) = false := by rfl) :
    PE X (.Call (.Name x p) (e :: es) [] pos) (tCall sp [] E0 t) := by
  constructor
  intro pins s σ H Q I h
  refine wpAny_Call_Name_kw (ld_glob I hg hm ?_ hdb)
  refine PySem.W.callWith_K (h₀ := X.base) I.ok.mod.kin hk (thn (ha.run pos pins s σ H _ I h) fun us s1 ⟨vs, H1, I1, r, q⟩ => ⟨I1.kIn, ?_⟩) he hpl
  have q' : sp (vs ++ []) H1 Q E0 := q
  rw [List.append_nil] at q'
  have many : us.length = ps.length := by rw [← r.length]; exact F.len _ _ _ _ q'
  have bind := hb s1 us I1.kIn (by rw [List.append_nil]; exact many)
  rw [List.append_nil] at bind
  refine wpAny_call (codeAny_mono (F.run X.A X.stack s1 H1 ⟨us, []⟩ us vs Q E0 nr room I1.env0 bind r q') fun res s2 hz => ?_)
  cases res with
  | error e => exact False.elim hz
  | ok fl =>
    cases fl with
    | ret u => exact I1.after hz
    | next => exact False.elim hz
    | brk => exact False.elim hz
    | cont => exact False.elim hz

/-! ### repr of data -/
def rReprD (K : PySem.W.Frag) : List V → Hp → VK → Prop := fun xs H Q => ∃ v d, xs = [v] ∧ Dp K H v d ∧ d.showable = true ∧ d.canLay0 = true ∧ d.depth ≤ 60 ∧ d.shown.length ≤ sizeLine ∧ Q (.str d.shown) H
theorem cr_reprD (hu : X.A.units + 65 < cLine) (nr : NoRepr X.A) : CallR X (.builtin "repr") (rReprD X.K) := by
  intro pins s σ H xs us Q I r h
  obtain ⟨v, d, rfl, hd, hs, hc, hz, hl, q⟩ := h
  obtain ⟨u, rfl, ru⟩ : ∃ u, us = [u] ∧ RelV v u := by
    cases r with
    | cons r1 r2 => cases r2; exact ⟨_, rfl, r1⟩
  cases hd with
  | non => cases ru; exact PySem.P.repr_of_none ⟨V.str _, H, I.tok _, ⟨_, rfl⟩, by simpa [PyData.shown] using q⟩
  | bl b => cases ru; exact PySem.P.repr_of_bool ⟨V.str _, H, I.tok _, ⟨_, rfl⟩, by simpa [PyData.shown] using q⟩
  | int i => obtain ⟨t, rfl⟩ := ru; exact PySem.P.repr_of_int (by simpa [PyData.showable] using hs) ⟨V.str _, H, I.tok _, ⟨_, rfl⟩, by simpa [PyData.shown] using q⟩
  | str x => obtain ⟨t, rfl⟩ := ru; exact PySem.P.repr_of_str ⟨V.str _, H, I.tok _, ⟨_, rfl⟩, by simpa [PyData.shown] using q⟩ hl
  | lst h1 h2 =>
    cases ru
    obtain ⟨as, rd⟩ := Dp.reads I _ _ _ (.lst h1 h2) rfl
    exact repr_of_reads' rd hs (PyData.noDict_hsm (PyData.hasDict_of_canLay _ hc)) nr (by omega) (fun _ _ e => e) (fun h' u tk kk => ⟨V.str _, H, I.kept kk, ⟨_, rfl⟩, q⟩) hl
  | tup h1 h2 =>
    cases ru
    obtain ⟨as, rd⟩ := Dp.reads I _ _ _ (.tup h1 h2) rfl
    exact repr_of_reads' rd hs (PyData.noDict_hsm (PyData.hasDict_of_canLay _ hc)) nr (by omega) (fun _ _ e => e) (fun h' u tk kk => ⟨V.str _, H, I.kept kk, ⟨_, rfl⟩, q⟩) hl
end
/-! ### the law's own call, where no repr is under way -/
section
variable {P : Program} {w : World} {K : PySem.W.Frag} {mg mb : Str → Option Value}
theorem enterG {k : Nat} {f l : Addr} {fd : FuncData} {x : Str} {sp : Sp} {z : Shared} {us : List Value} {ns : List Int}
    (kin : K.In z.heap) (gl : z.heap.Ns mainGlobals mg) (bl : z.heap.Ns builtinsNs mb) (bb : ∀ x : Str, x ≠ "__name__" → mb x = bootBuiltins x) (nl : z.heap.NoLimit) (ng : z.gens = #[])
    (hl : z.heap.get? l = some { cls := .type "list", data := .seq us.toArray }) (hi : IntsAre us ns) (many : ns.length ≤ sizeLine) (room : Room k callerA)
    (F : ∀ base : Heap, K.In base → base.Ns mainGlobals mg → FnG P w K mg base k f fd [x] sp) (bind : ∀ (s : Shared) (u : Value), BindsTo s fd ⟨[u], []⟩ [(x, u)])
    (want : ∀ H : Hp, SqL K H l (ns.map V.int) → sp [.ref l] H (fun v _ => v = .bl true) E0) :
    codeAny (model P w) callerA (.call (.ref f) ⟨[.ref l], []⟩) (fun r z' => r = .ok (.ret (.bool true)) ∧ OldK z.heap z'.heap ∧ z'.os = z.os ∧ AllBare z'.gens) z := by
  have rel := vals_ints hi
  have size := hi.length
  -- H has the script, known to its object, or nothing
  have go : ∀ H : Hp, (∀ b, H b = none ∨ (b = l ∧ H b = some (.frz { cls := .type "list", data := .seq us.toArray } (.lst (ns.map V.int))))) → SqL K H l (ns.map V.int) → HOk P w H z.heap → (H l ≠ none → K.lookup l = none) →
      codeAny (model P w) callerA (.call (.ref f) ⟨[.ref l], []⟩) (fun r z' => r = .ok (.ret (.bool true)) ∧ OldK z.heap z'.heap ∧ z'.os = z.os ∧ AllBare z'.gens) z := by
    intro H all seq held out
    have seqD : ∀ {b : Addr} {o : Obj} {es : Array DictEntry} {ep : Nat}, z.heap.get? b = some o → o.data = .dict es ep → H b = none := by
      intro b o es ep e d
      rcases all b with q | ⟨rfl, q⟩
      · exact q
      · rw [hl] at e
        cases e
        cases d
    have nsD : ∀ {b : Addr} {m : Str → Option Value}, z.heap.Ns b m → (hidT z.heap H).Ns b m := by
      rintro b m ⟨o, es, ep, e, d, r⟩
      exact ⟨o, es, ep, hidT_get e (seqD e d), d, r⟩
    have kinD : K.In (hidT z.heap H) := by
      intro b o e
      refine hidT_get (kin b o e) ?_
      rcases all b with q | ⟨rfl, q⟩
      · exact q
      · rw [out (by rw [q]; simp)] at e
        cases e
    have modD : Mod K mg (hidT z.heap H) := by
      obtain ⟨mc, n1, n2⟩ := nl
      exact ⟨kinD, nsD gl, ⟨mb, nsD bl, bb⟩, ⟨mc, nsD n1, n2⟩⟩
    have e0 : Env0 P w K mg (hidT z.heap H) callerA [] z H :=
      ⟨rfl, modD, fun b o e => of_hidT e, Nat.le_of_eq (hidT_size _ _), trivial, fun b hb => absurd (show b ∈ ([] : List Addr) from hb) (by simp), held, .of_eq ng⟩
    refine codeAny_mono ((F _ kinD (nsD gl)).run callerA [] z H ⟨[.ref l], []⟩ [.ref l] [.ref l] _ _ rfl room e0 (bind z (.ref l)) (.cons rfl .nil) (want H seq)) fun r z' got => ?_
    cases r with
    | error e => exact False.elim got
    | ok fl =>
      cases fl with
      | next => exact False.elim got
      | brk => exact False.elim got
      | cont => exact False.elim got
      | ret u =>
        obtain ⟨v, H', os, bare, un, held', rv, q⟩ := got
        have q' : v = .bl true := q
        subst q'
        obtain rfl : u = Value.bool true := rv
        refine ⟨rfl, OldK.of_keep fun b o e => ?_, os, bare⟩
        rcases all b with n | ⟨rfl, q⟩
        · exact un.keep b o e n (fun y => absurd (show b ∈ ([] : List Addr) from y) (by simp)) (by simp)
        · obtain ⟨e1, _⟩ := held b _ q
          obtain ⟨e2, _⟩ := held' b _ (un.frzs b _ _ q)
          rw [e] at e1
          cases e1
          exact e2
  cases hk : K.lookup l with
  | some o =>
    have e := kin l o hk
    rw [hl] at e
    cases e
    exact go (fun _ => none) (fun _ => Or.inl rfl) (Or.inr ⟨_, us.toArray, _, hk, rfl, rfl, rfl, by rw [List.size_toArray, size]; exact many, by simpa using rel⟩) (fun b u y => nomatch (show (none : Option HO) = some u from y)) fun y => absurd rfl y
  | none =>
    refine go (fun b => if b = l then some (.frz { cls := .type "list", data := .seq us.toArray } (.lst (ns.map V.int))) else none) (fun b => ?_) (Or.inl (Or.inr ⟨_, if_pos rfl⟩)) (fun b u y => ?_) fun _ => hk
    · by_cases hb : b = l
      · exact Or.inr ⟨hb, if_pos hb⟩
      · exact Or.inl (if_neg hb)
    · by_cases hb : b = l
      · have y' := (if_pos hb).symm.trans y
        cases y'
        subst hb
        exact ⟨hl, by rw [List.length_map]; exact many, us, _, rel, hl⟩
      · have y' := (if_neg hb).symm.trans y
        cases y'
end
/-- the goal that k_head leaves (case hc), from such a promise of the law's def -/
theorem walkG {l : PySem.W.OpenLaw} {n k : Nat} {q : Program} {loose : List Str} {XP : (Str → Option Value) → Heap → Prop} {YP : World → Heap → Prop} {d : DefRec} {K : Params → PySem.W.Frag} {sp : PySem.W.Frag → Sp} {x : Str}
    (hn : l.most = some n) (hn2 : n ≤ sizeLine) (hdf : d.params.defaults = []) (room : Room k callerA) (hY : ∀ (w : World) (h : Heap), YP w h → (K w.params).In h)
    (F : ∀ (w : World) (mg : Str → Option Value) (fa : Addr) (h : Heap), (K w.params).In h → h.Ns mainGlobals mg → mg d.name = some (.ref fa) →
      ∃ fd : FuncData, (∀ (s : Shared) (u : Value), BindsTo s fd ⟨[u], []⟩ [(x, u)]) ∧ ∀ base : Heap, (K w.params).In base → base.Ns mainGlobals mg → FnG l.prog w (K w.params) mg base k fa fd [x] (sp (K w.params)))
    (want : ∀ (K : PySem.W.Frag) (H : Hp) (a : Addr) (ns : List Int), ns.length ≤ n → SqL K H a (ns.map V.int) → sp K [.ref a] H (fun v _ => v = .bl true) E0) :
    PySem.W.WalkO q loose XP YP l.row.toRowW d [] (fun f vs => PySem.call f vs) := by
  refine Att.attach_call hn hdf fun w s₀ z mg mb fa o pm cd doc a vs ns G Y ho hd hcd hmg hobj hints hlen hg => ?_
  have kin := hY w _ Y
  obtain ⟨fd, bind, hF⟩ := F w mg fa _ kin G.T.g hmg
  exact enterG kin G.T.g G.T.b G.T.builtins G.T.nolimit hg hobj hints (Nat.le_trans hlen hn2) room hF bind fun H seq => want (K w.params) H a ns hlen seq
end G
set_option Elab.async false
set_option linter.all false
set_option maxRecDepth 100000
/-! points as pairs of ints: plain mathematics -/
namespace G

def ltP (x y : Pt) : Prop := x.1 * y.2 < y.1 * x.2
instance (x y : Pt) : Decidable (ltP x y) := inferInstanceAs (Decidable (_ < _))
/-- lowest terms -/
structure PtOk (x : Pt) : Prop where
  pos : 0 < x.2
  low : Int.gcd x.1 x.2 = 1
def Sz (b : Nat) (x : Pt) : Prop := x.1.natAbs < 2 ^ b ∧ x.2.natAbs < 2 ^ b
theorem Sz.mono {a b : Nat} {x : Pt} (h : Sz a x) (k : a ≤ b) : Sz b x :=
  ⟨Nat.lt_of_lt_of_le h.1 (Nat.pow_le_pow_right (by omega) k), Nat.lt_of_lt_of_le h.2 (Nat.pow_le_pow_right (by omega) k)⟩
def normP (p q : Int) : Pt := (p / (Int.gcd p q : Int), q / (Int.gcd p q : Int))

theorem gcd_pos' {p q : Int} (h : 0 < q) : 0 < (Int.gcd p q : Int) := by
  have : Int.gcd p q ≠ 0 := fun e => by
    have := (Int.gcd_eq_zero_iff.mp e).2
    omega
  omega
theorem norm_mul1 (p q : Int) : (normP p q).1 * (Int.gcd p q : Int) = p := Int.ediv_mul_cancel (Int.gcd_dvd_left ..)
theorem norm_mul2 (p q : Int) : (normP p q).2 * (Int.gcd p q : Int) = q := Int.ediv_mul_cancel (Int.gcd_dvd_right ..)
theorem norm_ok {p q : Int} (h : 0 < q) : PtOk (normP p q) := by
  have g := gcd_pos' (p := p) h
  constructor
  · have e := norm_mul2 p q
    by_cases c : 0 < (normP p q).2
    · exact c
    · have : (normP p q).2 * (Int.gcd p q : Int) ≤ 0 := Int.mul_nonpos_of_nonpos_of_nonneg (by omega) (by omega)
      omega
  · unfold normP
    exact Int.gcd_ediv_gcd_ediv_gcd (by omega)
theorem norm_id {x : Pt} (h : PtOk x) : normP x.1 x.2 = x := by
  unfold normP
  rw [h.low]
  simp
theorem ediv_abs_le (p : Int) {g : Int} (h : 0 < g) : (p / g).natAbs ≤ p.natAbs := Int.natAbs_ediv_le_natAbs p g
theorem norm_sz {p q : Int} {b : Nat} (h : 0 < q) (hp : p.natAbs < 2 ^ b) (hq : q.natAbs < 2 ^ b) : Sz b (normP p q) :=
  ⟨Nat.lt_of_le_of_lt (ediv_abs_le _ (gcd_pos' h)) hp, Nat.lt_of_le_of_lt (ediv_abs_le _ (gcd_pos' h)) hq⟩

theorem mul_pos_iff {a g : Int} (h : 0 < g) : 0 < a * g ↔ 0 < a := by
  constructor
  · intro k
    by_cases c : 0 < a
    · exact c
    · have := Int.mul_nonpos_of_nonpos_of_nonneg (show a ≤ 0 by omega) (show 0 ≤ g by omega)
      omega
  · intro k; exact Int.mul_pos k h
theorem mul_lt_iff {a b g : Int} (h : 0 < g) : a * g < b * g ↔ a < b := Int.mul_lt_mul_right h

/-- comparing with a point that is brought to lowest terms -/
theorem lt_norm_l {p q : Int} (h : 0 < q) (y : Pt) : ltP (normP p q) y ↔ p * y.2 < y.1 * q := by
  have g := gcd_pos' (p := p) h
  unfold ltP
  rw [← mul_lt_iff g, show (normP p q).1 * y.2 * (Int.gcd p q : Int) = ((normP p q).1 * (Int.gcd p q : Int)) * y.2 by rw [Int.mul_right_comm], norm_mul1, Int.mul_assoc, norm_mul2]
theorem lt_norm_r {p q : Int} (h : 0 < q) (y : Pt) : ltP y (normP p q) ↔ y.1 * q < p * y.2 := by
  have g := gcd_pos' (p := p) h
  unfold ltP
  rw [← mul_lt_iff g, Int.mul_assoc, norm_mul2, show (normP p q).1 * y.2 * (Int.gcd p q : Int) = ((normP p q).1 * (Int.gcd p q : Int)) * y.2 by rw [Int.mul_right_comm], norm_mul1]
theorem lt_irrefl (x : Pt) : ¬ ltP x x := by unfold ltP; omega
theorem lt_trans {x y z : Pt} (hx : 0 < x.2) (hy : 0 < y.2) (hz : 0 < z.2) (h1 : ltP x y) (h2 : ltP y z) : ltP x z := by
  unfold ltP at *
  have a : x.1 * y.2 * z.2 < y.1 * x.2 * z.2 := (mul_lt_iff hz).mpr h1
  have b : y.1 * z.2 * x.2 < z.1 * y.2 * x.2 := (mul_lt_iff hx).mpr h2
  have e1 : y.1 * x.2 * z.2 = y.1 * z.2 * x.2 := Int.mul_right_comm ..
  have c : x.1 * z.2 * y.2 < z.1 * x.2 * y.2 := by
    rw [Int.mul_right_comm x.1, Int.mul_right_comm z.1]; omega
  exact (mul_lt_iff hy).mp c
/-- two points in lowest terms are the same just if neither is less -/
theorem eq_of_mul {x y : Pt} (hx : PtOk x) (hy : PtOk y) (h : x.1 * y.2 = y.1 * x.2) : x = y := by
  have c : ∀ {x y : Pt}, PtOk x → PtOk y → x.1 * y.2 = y.1 * x.2 → x.2 ∣ y.2 := fun {x y} hx hy h => by
    have d : x.2 ∣ x.1 * y.2 := ⟨y.1, by rw [h, Int.mul_comm]⟩
    have d' := Int.dvd_gcd_mul_iff_dvd_mul.mpr d
    rw [Int.gcd_comm, hx.low] at d'
    simpa using d'
  have d1 := c hx hy h
  have d2 := c hy hx h.symm
  have e2 : x.2 = y.2 := Int.dvd_antisymm (by have := hx.pos; omega) (by have := hy.pos; omega) d1 d2
  have e1 : x.1 = y.1 := by
    rw [e2] at h
    exact Int.eq_of_mul_eq_mul_right (by have := hy.pos; omega) h
  exact Prod.ext e1 e2
theorem lt_tri {x y : Pt} (hx : PtOk x) (hy : PtOk y) : ltP x y ∨ x = y ∨ ltP y x := by
  by_cases a : ltP x y
  · exact .inl a
  · by_cases b : ltP y x
    · exact .inr (.inr b)
    · refine .inr (.inl (eq_of_mul hx hy ?_))
      unfold ltP at a b
      omega
theorem lt_asymm {x y : Pt} (h : ltP x y) : ¬ ltP y x := by unfold ltP at *; omega

/-- ascending rows of points -/
def Asc (l : List Pt) : Prop := l.Pairwise ltP

theorem abs_mul_lt {a b : Int} {m n : Nat} (ha : a.natAbs < 2 ^ m) (hb : b.natAbs < 2 ^ n) : (a * b).natAbs < 2 ^ (m + n) := by
  rw [Int.natAbs_mul, Nat.pow_add]
  exact Nat.mul_lt_mul'' ha hb
theorem abs_add_lt {a b : Int} {m : Nat} (ha : a.natAbs < 2 ^ m) (hb : b.natAbs < 2 ^ m) : (a + b).natAbs < 2 ^ (m + 1) := by
  rw [Nat.pow_succ]; omega
theorem abs_sub_lt {a b : Int} {m : Nat} (ha : a.natAbs < 2 ^ m) (hb : b.natAbs < 2 ^ m) : (a - b).natAbs < 2 ^ (m + 1) := by
  rw [Nat.pow_succ]; omega
theorem abs_mono {a : Int} {m n : Nat} (ha : a.natAbs < 2 ^ m) (h : m ≤ n) : a.natAbs < 2 ^ n := Nat.lt_of_lt_of_le ha (Nat.pow_le_pow_right (by omega) h)
end G
set_option Elab.async false
set_option linter.all false
set_option maxRecDepth 100000
/-! the rules that lean on the written part, with this part said -/
namespace G
open PySem L2
section
variable (K : PySem.W.Frag) {X : Cx} {tg l o e : Expr} {es : List Expr} {te tl : TE} {t : TA} {pos cpos apos : Pos} {name : Str} {T id : String} {r : V → List V → Hp → VK → Prop}
theorem k_ixT (h : X.K = K := by rfl) : IxR X (rIxT K) := h ▸ ix_tup
theorem k_ixL (h : X.K = K := by rfl) : IxR X (rIxL K) := h ▸ ix_list
theorem k_ixS (h : X.K = K := by rfl) : IxR X (rIx K) := h ▸ ix_seq
theorem k_slT (h : X.K = K := by rfl) : SlR X (rSlA K) := h ▸ sl_tupA
theorem k_slL (h : X.K = K := by rfl) : SlR X (rSlL K) := h ▸ sl_list
theorem k_inS (h : X.K = K := by rfl) : OpR X (compareOp .In) (rIn K false) := h ▸ op_in_seq
theorem k_notInS (h : X.K = K := by rfl) : OpR X (compareOp .NotIn) (rIn K true) := h ▸ op_notIn_seq
theorem k_eqD (hu : X.A.units + 64 < cLine) (h : X.K = K := by rfl) : OpR X (compareOp .Eq) (rEqD K) := h ▸ op_eqD hu
theorem k_neD (hu : X.A.units + 64 < cLine) (h : X.K = K := by rfl) : OpR X (compareOp .NotEq) (rNeD K) := h ▸ op_neD hu
theorem k_inD (hu : X.A.units + 65 < cLine) (h : X.K = K := by rfl) : OpR X (compareOp .In) (rInD K) := h ▸ op_inD hu
theorem k_notInD (hu : X.A.units + 65 < cLine) (h : X.K = K := by rfl) : OpR X (compareOp .NotIn) (rNotInD K) := h ▸ op_notInD hu
theorem k_catT (h : X.K = K := by rfl) : OpR X (binaryOp .Add) (rCatA K) := h ▸ op_catA
def rLenK (K : PySem.W.Frag) : List V → Hp → VK → Prop := fun xs H Q => ∃ p ys, xs = [.ref p] ∧ (SqL K H p ys ∨ SqT K H p ys) ∧ Q (.int ys.length) H
theorem c_len (h : X.K = K := by rfl) : CallR X (.builtin "len") (rLenK K) := h ▸ call_len_seq
def rTupK (K : PySem.W.Frag) : List V → Hp → VK → Prop := fun xs H Q => ∃ p ys, xs = [.ref p] ∧ ((SqL K H p ys ∧ ∀ l, H l = none → Q (.ref l) (upd H l (.tup ys))) ∨ (SqT K H p ys ∧ Q (.ref p) H))
theorem c_tuple (h : X.K = K := by rfl) : CallR X (.type "tuple") (rTupK K) := h ▸ call_tuple_of
def rLstK (K : PySem.W.Frag) : List V → Hp → VK → Prop := fun xs H Q => ∃ p ys, xs = [.ref p] ∧ (SqL K H p ys ∨ SqT K H p ys) ∧ ∀ l, H l = none → Q (.ref l) (upd H l (.lst ys))
theorem c_list (h : X.K = K := by rfl) : CallR X (.type "list") (rLstK K) := h ▸ call_list_of
theorem c_all (hc : X.calm = true) (h : X.K = K := by rfl) : CallR X (.builtin "all") (rAll K) := h ▸ cr_all hc
theorem c_any (hc : X.calm = true) (h : X.K = K := by rfl) : CallR X (.builtin "any") (rAny K) := h ▸ cr_any hc
theorem c_repr (hu : X.A.units + 65 < cLine) (nr : NoRepr X.A) (h : X.K = K := by rfl) : CallR X (.builtin "repr") (rReprD K) := h ▸ cr_reprD hu nr
theorem c_isi (h : X.K = K := by rfl) : CallR X (.builtin "isinstance") (rIsi K) := h ▸ call_isi
theorem i_list (hl : PE X l tl) (h : X.K = K := by rfl) : PI X tg l (iList K tl) := h ▸ pi_list hl
theorem i_tup (hl : PE X l tl) (h : X.K = K := by rfl) : PI X tg l (iTup K tl) := h ▸ pi_tup hl
theorem e_revL {k p1 p2 p3} (hl : PE X e te) (h : X.K = K := by rfl) : PE X (.Subscript e (.Slice none none (some (.UnaryOp .USub (.Constant (.int 1) k p1) p2)) p3) pos) (tRevL K te) := h ▸ pe_revL hl
theorem e_bm (q : PE X e (tBM X.K T r te t)) (h : X.K = K := by rfl) : PE X e (tBM K T r te t) := h ▸ q
theorem e_bm0 (q : PE X e (tBM0 X.K T r te)) (h : X.K = K := by rfl) : PE X e (tBM0 K T r te) := h ▸ q
theorem g_tup {n : Nat} {u : TGs} (q : PG X e (gTup X.K n u)) (h : X.K = K := by rfl) : PG X e (gTup K n u) := h ▸ q
end
def tTruK (K : PySem.W.Frag) (ta : TE) : TT := fun σ H Q => ta σ H fun x H' => ∃ k, TruV K x H' k ∧ Q k H'
theorem p_truth (K : PySem.W.Frag) {X : Cx} {a : Expr} {ta : TE} (ha : PE X a ta) (he : ∀ whole, isTrue a X.env whole = (do let v ← whole; standAt a.pos; holding [v] (truthy v))) (h : X.K = K := by rfl) : PT X a (tTruK K ta) := by
  subst h; exact pt_truth ha he
end G
set_option Elab.async false
set_option linter.all false
set_option maxRecDepth 100000
/-! for k, x in enumerate(t), t a tuple -/
namespace G
open PySem L2 PySem.Spec PyProof.Rows

abbrev tupIt (t : Addr) : Obj := { cls := .type "tuple_iterator", data := .fields #[.ref t, .int 0 0] }
abbrev enumAt (i : Addr) : Obj := { cls := .type "enumerate", data := .fields #[.none, .bool false, .ref i, rawInt 0, .none, .none] }
set_option maxHeartbeats 1000000 in
theorem meets_enum_tup (t : Addr) (things : Array Value) :
    Meets (Builtin.«enumerate.__new__» ⟨[.type "enumerate", .ref t], []⟩) (fun _ R z => z.heap.IsTuple t things ∧
      R (.ok (.ret (.ref (z.heap.push (tupIt t)).objs.size))) { z with heap := (z.heap.push (tupIt t)).push (enumAt z.heap.objs.size) }) :=
  .of_wp fun prog w A R z got => by
    obtain ⟨hp, g, d, tk, os⟩ := z
    obtain ⟨tup, got⟩ := got
    have hsub := sub_enumerate
    have q1 : ∀ {A' : Around} {E : Value → Shared → Prop} {Q : Value → Shared → Prop}, Q (.ref hp.objs.size) ⟨hp.push (tupIt t), g, d, tk, os⟩ → wpAny (model prog w) A' (pyIter (.ref t)) Q E ⟨hp, g, d, tk, os⟩ :=
      fun q => wpAny_pyIter_tuple tup q
    wp_walk using q1
    refine wpAny_stack_any fun st => wpAny_pure ?_
    split
    · rename_i c _ _ _ _ _
      cases (c == Value.type "enumerate")
      · wp_walk using q1
        exact ⟨_, rfl, got⟩
      · wp_walk using q1
        exact ⟨_, rfl, got⟩
    · wp_walk using q1
      exact ⟨_, rfl, got⟩
section
variable {prog : Program} {w : World} {A : Around} {E : Value → Shared → Prop} {z : Shared}
theorem call_enum_tup {t : Addr} {things : Array Value} {Q : Value → Shared → Prop} (tup : z.heap.IsTuple t things)
    (next : ∀ h', IsEnum h' (z.heap.objs.size + 1) z.heap.objs.size 0 .none → h'.IsTupleIter z.heap.objs.size t 0 → (∀ b o, z.heap.get? b = some o → h'.get? b = some o) → Q (.ref (z.heap.objs.size + 1)) { z with heap := h' }) :
    wpAny (model prog w) A (call (.type "enumerate") [.ref t]) Q E z := by
  refine callType_new F.called_enumerate (by decide) (F.typeCall_enumerate_1 _) (F.newCall_enumerate_1 _) (fun o => F.args_object_init_2 o _) F.entry_enumerate_new (meets_enum_tup t things) ⟨tup, ?_⟩
  have size1 : (z.heap.push (tupIt t)).objs.size = z.heap.objs.size + 1 := Heap.size_push ..
  have made : ((z.heap.push (tupIt t)).push (enumAt z.heap.objs.size)).get? (z.heap.objs.size + 1) = some (enumAt z.heap.objs.size) := by
    have q := Heap.get?_push_size (z.heap.push (tupIt t)) (o := enumAt z.heap.objs.size) rfl
    rw [size1] at q
    exact q
  show _ ∧ _
  rw [size1]
  exact ⟨⟨_, made, rfl⟩, next _ made ⟨_, Heap.get?_push_of_some _ (Heap.get?_push_size _ rfl), rfl, rfl⟩ fun b o x => Heap.get?_push_of_some _ (Heap.get?_push_of_some _ x)⟩
end
/-- the tuple at a, each item in a new pair with its number -/
def ItU (K : PySem.W.Frag) (a : Addr) : It where
  go := fun i H => ∃ (xs : List V) (x : V), SqT K H a xs ∧ xs[i]? = some x
  yld := fun i H v H' => ∃ T x, v = .ref T ∧ H T = none ∧ H' = upd H T (.tup [.int (i : Nat), x]) ∧ ∀ xs, SqT K H a xs → xs[i]? = some x
  stop := fun i H => ∃ xs : List V, SqT K H a xs ∧ xs.length = i
theorem enum_ne {h : Heap} {e it a : Addr} {c : Int} {old : Value} {things : Array Value} (he : IsEnum h e it c old) (ha : h.IsTuple a things) : e ≠ a := by
  rintro rfl
  obtain ⟨o, ho, hc, _⟩ := ha
  have he' : h.get? e = some _ := he
  rw [he'] at ho
  cases ho
  exact absurd hc (by simp)
theorem tupit_ne {h : Heap} {it a b : Addr} {i : Nat} {things : Array Value} (hi : h.IsTupleIter it b i) (ha : h.IsTuple a things) : a ≠ it := by
  rintro rfl
  obtain ⟨o, ho, hc, _⟩ := ha
  obtain ⟨o', ho', hc', _⟩ := hi
  rw [ho'] at ho
  cases ho
  rw [hc'] at hc
  exact absurd hc (by simp)
theorem turn_enumT {P : Program} {w : World} {K : PySem.W.Frag} {elts : List Expr} {kk : Nat} {tpos : Pos} (a e it : Addr) :
    Turn P w K (.Tuple elts kk tpos) (ItU K a) [e, it] e (fun i h => (∃ old, IsEnum h e it ((i : Nat) : Int) old) ∧ h.IsTupleIter it a i ∧ e ≠ it) where
  mem := by simp
  obj := by
    rintro i h ⟨⟨old, he⟩, ⟨o, ho, _, hd⟩, _⟩ b hb
    rcases (by simpa using hb : b = e ∨ b = it) with rfl | rfl
    · exact ⟨_, he, fun v q => nomatch q⟩
    · exact ⟨o, ho, fun v q => by rw [hd] at q; cases q⟩
  keep := by
    rintro i h h' ⟨⟨old, he⟩, hi, ne⟩ k
    exact ⟨⟨old, k e (by simp) _ he⟩, hi.at fun o q => k it (by simp) o q, ne⟩
  item := by
    intro X hP hw hK calm i pins z σ H E I fp st go
    subst hP hw hK
    obtain ⟨⟨old, he⟩, hi, ne⟩ := st
    obtain ⟨xs, x, hq, hx⟩ := go
    obtain ⟨its, rel, tup, _⟩ := I.tuple hq
    obtain ⟨u, hu, ru⟩ := rel.get hx
    have hlt : i < its.toArray.size := by
      have := (List.getElem?_eq_some_iff.mp hu).1
      simpa using this
    have ea := enum_ne he tup
    have low1 : e < z.heap.objs.size := Heap.lt_size he
    have low2 : it < z.heap.objs.size := by obtain ⟨_, q, _⟩ := hi; exact Heap.lt_size q
    have D := Draws.tuple (prog := X.prog) (w := X.w) (A := X.A.in1) (I.ok.hd calm) it a (tupit_ne hi tup) its.toArray
    refine wpAny_pyNext_enum_itemC D he ⟨hi, tup⟩ hlt ne (by simp [ne, ea]) fun y h' tk hy ho hst hT hsz kept => ?_
    have hy' : y = u := by
      have q1 : its.toArray[i]? = some u := by simpa using hu
      rw [q1] at hy
      exact (Option.some.inj hy).symm
    subst hy'
    refine ⟨_, rfl, wpAny_letOwnedTupleGo_enum (s := { z with heap := h', toks := tk + 1 }) ho fun h'' he' sb => ?_⟩
    have hT2 : h''.get? z.heap.objs.size = some { cls := .type "tuple", data := .seq #[.int i tk, y] } := (sb.2 _ (Nat.ne_of_gt low1)).trans hT
    have pair : ObjOk X.prog X.w (upd H z.heap.objs.size (.tup [.int (i : Nat), x])) h'' z.heap.objs.size (.tup [.int (i : Nat), x]) :=
      ⟨by show 2 ≤ sizeLine; decide, [.int i tk, y], .cons ⟨_, rfl⟩ (.cons ru .nil), ⟨_, hT2, rfl, _, rfl⟩⟩
    have J : Inv X pins σ (upd H z.heap.objs.size (.tup [.int (i : Nat), x])) { z with heap := h'', toks := tk + 1 } := by
      refine I.turnedNew (ch := [e, it]) (fun b o hb q => ?_) fp (Nat.le_refl _) pair
      have b1 : b ≠ e := fun y => hb (by simp [y])
      have b2 : b ≠ it := fun y => hb (by simp [y])
      exact (sb.2 b b1).trans (kept b o b1 b2 q)
    refine ⟨.ref z.heap.objs.size, _, J, rfl, ⟨_, x, rfl, I.hok.fresh (Nat.le_refl _), rfl, fun ys hys => by rw [I.tuple_inj hys hq]; exact hx⟩, ⟨⟨y, ?_⟩, hst.1.at fun o q => (sb.2 it (Ne.symm ne)).trans q, ne⟩, fun b hb => ?_⟩
    · rw [show ((i + 1 : Nat) : Int) = (i : Int) + 1 by omega]
      exact he'
    · have hb' : b < z.heap.objs.size := by
        rcases (by simpa using hb : b = e ∨ b = it) with rfl | rfl
        · exact low1
        · exact low2
      rw [upd_ne (Nat.ne_of_lt hb')]
      exact (fp b hb).1
  done := by
    intro X hP hw hK calm i pins z σ H E I fp st stop
    subst hP hw hK
    obtain ⟨⟨old, he⟩, hi, ne⟩ := st
    obtain ⟨xs, hq, hx⟩ := stop
    obtain ⟨its, rel, tup, _⟩ := I.tuple hq
    obtain ⟨f0, f1, _, f3, f4, f5⟩ := fp it (by simp)
    have many : its.toArray.size = i := by
      have := rel.length
      simpa [← this] using hx
    have D := Draws.tuple (prog := X.prog) (w := X.w) (A := X.A.in1) (I.ok.hd calm) it a (tupit_ne hi tup) its.toArray
    have st : z.heap.IsTupleIter it a its.toArray.size := by rw [many]; exact hi
    exact wpAny_pyNext_enum_endD D he ⟨st, tup⟩ fun h' eb => ⟨rfl, I.turned (t' := z.toks) (fun b o hb q => eb b o hb q) f0 f1 f3 f4 f5⟩
  self := by
    rintro A i z Q E ⟨⟨_, he⟩, _⟩ q
    exact wpAny_pyIter_enum he q

def iEnumT (K : PySem.W.Frag) (ta : TA) : TI := fun σ H R => ta σ H fun vs H1 => ∃ a xs, vs = [.ref a] ∧ SqT K H1 a xs ∧ R (ItU K a) H1
theorem i_enumT (K : PySem.W.Frag) {X : Cx} {e : Expr} {ta : TA} {p pos tpos : Pos} {elts : List Expr} {kk : Nat} (hg : Gl X "enumerate") (hm : X.mg "enumerate" = none) (ha : PA X [e] ta) (hs : starEach [e] X.env = [(false, eval e X.env)] := by rfl)
    (hK : X.K = K := by rfl) : PI X (.Tuple elts kk tpos) (.Call (.Name "enumerate" p) [e] [] pos) (iEnumT K ta) := by
  subst hK
  constructor
  intro pins z σ H R I want
  refine Call_ (ld_blt I hg hm boot_enumerate (callWith_type1 (thn (ha.run pos pins z σ H _ I want) fun us z1 ⟨vs, H1, I1, rel, q1⟩ => ?_) hs rfl))
  obtain ⟨a, xs, rfl, hq, q⟩ := q1
  cases rel with
  | cons r rr =>
    cases rr
    cases r
    obtain ⟨its, _, tup, _⟩ := I1.tuple hq
    refine call_enum_tup tup fun h' he hi kept => wpAny_pyIter_enum he ?_
    have I2 : Inv X pins σ H1 { z1 with heap := h' } := I1.kept (t' := z1.toks) kept
    refine ⟨z1.heap.objs.size + 1, [z1.heap.objs.size + 1, z1.heap.objs.size], _, _, H1, rfl, I2, turn_enumT a (z1.heap.objs.size + 1) z1.heap.objs.size, ⟨⟨.none, he⟩, hi, Nat.succ_ne_self _⟩, fun b hb => ?_, q⟩
    have low : z1.heap.objs.size ≤ b := by
      rcases (by simpa using hb : b = z1.heap.objs.size + 1 ∨ b = z1.heap.objs.size) with rfl | rfl
      · exact Nat.le_succ _
      · exact Nat.le_refl _
    exact I1.fpOk low (I1.hok.fresh low)
theorem for_enumT {K : PySem.W.Frag} {a : Addr} {xs : List V} {g : TG} {tb : TS} {D : Ends} {σ : L2.St} {H : Hp} (Pv : Nat → L2.St → Hp → Prop) (h0 : Pv 0 σ H) (hl : ∀ i σ H, i ≤ xs.length → Pv i σ H → SqT K H a xs)
    (hs : ∀ i x T σ H, xs[i]? = some x → Pv i σ H → H T = none → g (.ref T) σ (upd H T (.tup [.int (i : Nat), x])) fun σ2 H2 => tb { D with nx := Pv (i + 1), ct := Pv (i + 1), bk := D.nx } σ2 H2) (hd : ∀ σ H, Pv xs.length σ H → D.nx σ H) :
    ∃ W : Nat → Nat → L2.St → Hp → Prop, (∃ m, W 0 m σ H) ∧ ∀ i m σ H, W i m σ H →
      ((ItU K a).stop i H ∧ D.nx σ H) ∨ ((ItU K a).go i H ∧ ∃ N : L2.St → Hp → Prop, (∀ σ' H', N σ' H' → ∃ m', m' < m ∧ W (i + 1) m' σ' H') ∧ ∀ x H', (ItU K a).yld i H x H' → g x σ H' fun σ2 H2 => tb { D with nx := N, ct := N, bk := D.nx } σ2 H2) := by
  refine ⟨fun i m σ H => m = xs.length - i ∧ i ≤ xs.length ∧ Pv i σ H, ⟨xs.length, by simp, Nat.zero_le _, h0⟩, ?_⟩
  rintro i m σ H ⟨rfl, hi, p⟩
  have q := hl i σ H hi p
  by_cases c : i < xs.length
  · refine .inr ⟨⟨xs, xs[i], q, by simp [c]⟩, Pv (i + 1), fun σ' H' p' => ⟨xs.length - (i + 1), by omega, rfl, c, p'⟩, fun x H' y => ?_⟩
    obtain ⟨T, u, rfl, hT, rfl, hu⟩ := y
    exact hs i u T σ H (hu xs q) p hT
  · have e : i = xs.length := by omega
    subst e
    exact .inl ⟨⟨xs, q, rfl⟩, hd σ H p⟩
end G
set_option Elab.async false
set_option linter.all false
set_option maxRecDepth 100000
/-! small helps for readings -/
namespace G
open PySem L2
theorem i_enum (K : PySem.W.Frag) {X : Cx} {tg e : Expr} {ta : TA} (q : PI X tg e (iEnum X.K ta)) (h : X.K = K := by rfl) : PI X tg e (iEnum K ta) := h ▸ q
theorem i_zip (K : PySem.W.Frag) {X : Cx} {tg e : Expr} {ta : TA} (q : PI X tg e (iZip X.K ta)) (h : X.K = K := by rfl) : PI X tg e (iZip K ta) := h ▸ q
theorem dps_bools {K : PySem.W.Frag} {H : Hp} : ∀ {vs : List V} {bs : List Bool}, DpAll K H vs (bs.map PyData.bool) → vs = bs.map V.bl
  | _, [], h => by cases h; rfl
  | _, b :: bs, h => by
    cases h with
    | cons h1 h2 => cases h1; rw [dps_bools h2]; rfl
theorem tup_bools (bs : List Bool) : tupDs (bs.map PyData.bool) = true := tupDs_all.mpr fun d h => by
  obtain ⟨b, _, rfl⟩ := List.mem_map.mp h; rfl
/-- t[lo:hi] of a tuple -/
theorem slT {K : PySem.W.Frag} {H : Hp} {a : Addr} {xs : List V} {lo hi : Nat} {Q : VK} (h : SqT K H a xs)
    (q : ∀ b H', Kp M0 H H' → SqT K H' b ((xs.drop lo).take (hi - lo)) → Q (.ref b) H') : rSlA K (.ref a) (some (lo : Int)) (some (hi : Int)) H Q := by
  refine ⟨a, xs, rfl, h, fun c => ?_, fun _ p hp => ?_⟩
  · rw [HT.sIx_nat, HT.sIx_nat] at c
    refine q a H (Kp.refl H) ?_
    have e : (xs.drop lo).take (hi - lo) = xs := by
      by_cases z : xs.length = 0
      · rw [List.length_eq_zero_iff.mp z]; simp
      · have : lo = 0 := by omega
        subst this
        rw [List.drop_zero]
        exact List.take_of_length_le (by omega)
    rw [e]; exact h
  · refine q p _ (Kp.new hp) ?_
    have e : cutV xs (some (lo : Int)) (some (hi : Int)) = (xs.drop lo).take (hi - lo) := by
      unfold cutV
      rw [HT.sIx_nat, HT.sIx_nat]
      by_cases z : lo ≤ xs.length
      · rw [show min lo xs.length = lo by omega]
        by_cases y : hi ≤ xs.length
        · rw [show min hi xs.length = hi by omega]
        · rw [show min hi xs.length = xs.length by omega, List.take_of_length_le (by rw [List.length_drop]; omega), List.take_of_length_le (by rw [List.length_drop]; omega)]
      · rw [show min lo xs.length = xs.length by omega, List.drop_of_length_le (Nat.le_refl _), List.drop_of_length_le (by omega)]; simp
    rw [e]
    exact Or.inl (Or.inl upd_same)
theorem slL {K : PySem.W.Frag} {H : Hp} {a : Addr} {xs : List V} {lo hi : Option Int} {Q : VK} {l h : Nat} (hs : SqL K H a xs) (e1 : HT.sIx xs.length 0 lo = l) (e2 : HT.sIx xs.length xs.length hi = h)
    (q : ∀ p, H p = none → Q (.ref p) (upd H p (.lst ((xs.drop l).take (h - l))))) : rSlL K (.ref a) lo hi H Q := by
  refine ⟨a, xs, rfl, hs, fun p hp => ?_⟩
  have z := q p hp
  rw [← e1, ← e2] at z
  exact z
section
variable {K : PySem.W.Frag} {s : Nat} {te : TE} {σ : L2.St} {H1 : Hp} {Q : VK}
theorem lcRi {j : Int} {n : Nat} (e : j.toNat = n) (h1 : -1000000 ≤ j) (h2 : j ≤ 1000000) (dd : Nat → PyData) (ht : ∀ i, i < n → tupD (dd i) = true)
    (hs : ∀ i H, i < n → Kp M0 H1 H → ∀ Q' : VK, (∀ y H4, Kp M0 H H4 → Dp K H4 y (dd i) → Q' y H4) → te ((σ.set s none).set s (some (.int (i : Nat)))) H Q')
    (hq : ∀ D H vs, H1 D = none → Kp M0 H1 H → H D = some (.lst vs) → DpAll K H vs ((List.range n).map dd) → Q (.ref D) H) : LcR s tYes te σ Q [.int j] H1 := by
  refine ⟨j, rfl, by omega, by omega, fun D hD => ?_⟩
  rw [e]
  exact lcp_range (K := K) dd hD (by rw [sizeLine_eq]; omega) ht (fun i H hi k Q' q => by
    have z := hs i H hi k Q' q
    rw [show (0 : Int) + (i : Nat) = (i : Nat) by omega]
    exact z) fun H vs => hq D H vs hD
end
theorem SqL.keep {K : PySem.W.Frag} {H H' : Hp} {a : Addr} {xs : List V} (h : SqL K H a xs) (k : Kp M0 H H') : SqL K H' a xs := k.same.seq h
theorem none_back {M : Addr → Prop} {H H' : Hp} {p : Addr} (k : Kp M H H') (h : H' p = none) (m : ¬ M p) : H p = none := by
  cases e : H p with
  | none => rfl
  | some o => rw [k p o e m] at h; cases h
theorem none0 {H H' : Hp} {p : Addr} (k : Kp M0 H H') (h : H' p = none) : H p = none := none_back k h (fun z => z)
theorem sqT_mk {K : PySem.W.Frag} {H : Hp} {a : Addr} {xs : List V} (h : H a = some (.tup xs)) : SqT K H a xs := Or.inl (Or.inl h)
theorem sqL_mk {K : PySem.W.Frag} {H : Hp} {a : Addr} {xs : List V} (h : H a = some (.lst xs)) : SqL K H a xs := Or.inl (Or.inl h)
theorem hu65_of {A : Around} {k : Nat} (hr : Room k A) : A.units + 65 < cLine := by have := hr.un; omega
theorem for_enumL {K : PySem.W.Frag} {a : Addr} {xs : List V} {g : TG} {tb : TS} {D : Ends} {σ : L2.St} {H : Hp} (Pv : Nat → L2.St → Hp → Prop) (h0 : Pv 0 σ H) (hl : ∀ i σ H, i ≤ xs.length → Pv i σ H → SqL K H a xs)
    (hs : ∀ i x T σ H, xs[i]? = some x → Pv i σ H → H T = none → g (.ref T) σ (upd H T (.tup [.int (i : Nat), x])) fun σ2 H2 => tb { D with nx := Pv (i + 1), ct := Pv (i + 1), bk := D.nx } σ2 H2) (hd : ∀ σ H, Pv xs.length σ H → D.nx σ H) :
    ∃ W : Nat → Nat → L2.St → Hp → Prop, (∃ m, W 0 m σ H) ∧ ∀ i m σ H, W i m σ H →
      ((Ite K a).stop i H ∧ D.nx σ H) ∨ ((Ite K a).go i H ∧ ∃ N : L2.St → Hp → Prop, (∀ σ' H', N σ' H' → ∃ m', m' < m ∧ W (i + 1) m' σ' H') ∧ ∀ x H', (Ite K a).yld i H x H' → g x σ H' fun σ2 H2 => tb { D with nx := N, ct := N, bk := D.nx } σ2 H2) := by
  refine ⟨fun i m σ H => m = xs.length - i ∧ i ≤ xs.length ∧ Pv i σ H, ⟨xs.length, by simp, Nat.zero_le _, h0⟩, ?_⟩
  rintro i m σ H ⟨rfl, hi, p⟩
  have q := hl i σ H hi p
  by_cases c : i < xs.length
  · refine .inr ⟨⟨xs, xs[i], q, by simp [c]⟩, Pv (i + 1), fun σ' H' p' => ⟨xs.length - (i + 1), by omega, rfl, c, p'⟩, fun x H' y => ?_⟩
    obtain ⟨T, u, rfl, hT, rfl, hu⟩ := y
    exact hs i u T σ H (hu xs q) p hT
  · have e : i = xs.length := by omega
    subst e
    exact .inl ⟨⟨xs, q, Nat.le_refl _⟩, hd σ H p⟩
/-! loops whose source has been worked out -/
section
variable {K : PySem.W.Frag} {g : TG} {tb : TS} {D : Ends} {σ : L2.St} {H : Hp}
def ForIt (J : It) (g : TG) (tb : TS) (D : Ends) (σ : L2.St) (H1 : Hp) : Prop := ∃ W : Nat → Nat → L2.St → Hp → Prop, (∃ m, W 0 m σ H1) ∧ ∀ i m σ H, W i m σ H →
  (J.stop i H ∧ D.nx σ H) ∨ (J.go i H ∧ ∃ N : L2.St → Hp → Prop, (∀ σ' H', N σ' H' → ∃ m', m' < m ∧ W (i + 1) m' σ' H') ∧ ∀ x H', J.yld i H x H' → g x σ H' fun σ2 H2 => tb { D with nx := N, ct := N, bk := D.nx } σ2 H2)
def LfR (g : TG) (tb : TS) (D : Ends) (σ : L2.St) (vs : List V) (H1 : Hp) : Prop := ∃ j : Int, vs = [.int j] ∧ -(2 ^ 62) ≤ j ∧ j < 2 ^ 62 ∧ ForIt (Itr 0 j.toNat) g tb D σ H1
def LfL (K : PySem.W.Frag) (g : TG) (tb : TS) (D : Ends) (σ : L2.St) (x : V) (H1 : Hp) : Prop := ∃ a, x = .ref a ∧ (∃ xs, SqL K H1 a xs) ∧ ForIt (Itl K a) g tb D σ H1
def LfT (K : PySem.W.Frag) (g : TG) (tb : TS) (D : Ends) (σ : L2.St) (x : V) (H1 : Hp) : Prop := ∃ a, x = .ref a ∧ (∃ xs, SqT K H1 a xs) ∧ ForIt (Itt K a) g tb D σ H1
theorem tforR {ta : TA} (h : ta σ H (LfR g tb D σ)) : tFor (iRng1 ta) g tb D σ H := h
theorem tforL {tl : TE} (h : tl σ H (LfL K g tb D σ)) : tFor (iList K tl) g tb D σ H := h
theorem tforT {tl : TE} (h : tl σ H (LfT K g tb D σ)) : tFor (iTup K tl) g tb D σ H := h
end
end G
set_option Elab.async false
set_option linter.all false
set_option maxRecDepth 100000
namespace G
open PySem L2
def top (i : Nat) : Stmt := PySem.Challenge.pw_gapwise_k01_points.main.body.getD i (.Pass ⟨0, 0, 0, 0⟩)
structure DefAt (K : PySem.W.Frag) (mg : Str → Option Value) (x : Str) (st : Stmt) (ps : List Str) (f : Addr) (fd : FuncData) : Prop where
  F : Fun K x x st f fd
  g : mg x = some (.ref f)
  b : Binds K fd ps []
abbrev s_copied : Stmt := top 2
abbrev N_copied : List Str := ["value", "frames", "whole", "parts", "found", "part", "made"]
abbrev P_copied : List Str := ["value"]
theorem sc_copied : FnScope N_copied P_copied (defScope s_copied) := ⟨rfl, rfl, rfl, by decide +kernel, rfl, by decide +kernel, by decide +kernel⟩
abbrev s_parts_in : Stmt := top 3
abbrev N_parts_in : List Str := ["value", "key"]
abbrev P_parts_in : List Str := ["value"]
theorem sc_parts_in : FnScope N_parts_in P_parts_in (defScope s_parts_in) := ⟨rfl, rfl, rfl, by decide +kernel, rfl, by decide +kernel, by decide +kernel⟩
abbrev s_put_together : Stmt := top 4
abbrev N_put_together : List Str := ["whole", "parts", "names", "at"]
abbrev P_put_together : List Str := ["whole", "parts"]
theorem sc_put_together : FnScope N_put_together P_put_together (defScope s_put_together) := ⟨rfl, rfl, rfl, by decide +kernel, rfl, by decide +kernel, by decide +kernel⟩
abbrev s_make_point : Stmt := top 14
abbrev N_make_point : List Str := ["p", "q", "common"]
abbrev P_make_point : List Str := ["p", "q"]
theorem sc_make_point : FnScope N_make_point P_make_point (defScope s_make_point) := ⟨rfl, rfl, rfl, by decide +kernel, rfl, by decide +kernel, by decide +kernel⟩
abbrev s_is_before : Stmt := top 15
abbrev N_is_before : List Str := ["one", "other"]
abbrev P_is_before : List Str := ["one", "other"]
theorem sc_is_before : FnScope N_is_before P_is_before (defScope s_is_before) := ⟨rfl, rfl, rfl, by decide +kernel, rfl, by decide +kernel, by decide +kernel⟩
abbrev s__law_open_cells : Stmt := top 17
abbrev N__law_open_cells : List Str := ["script", "mixed", "cell", "cells"]
abbrev P__law_open_cells : List Str := ["script"]
theorem sc__law_open_cells : FnScope N__law_open_cells P__law_open_cells (defScope s__law_open_cells) := ⟨rfl, rfl, rfl, by decide +kernel, rfl, by decide +kernel, by decide +kernel⟩
abbrev s__law_pick : Stmt := top 18
abbrev N__law_pick : List Str := ["source", "most", "cells", "left", "turn", "mixed"]
abbrev P__law_pick : List Str := ["source", "most"]
theorem sc__law_pick : FnScope N__law_pick P__law_pick (defScope s__law_pick) := ⟨rfl, rfl, rfl, by decide +kernel, rfl, by decide +kernel, by decide +kernel⟩
abbrev s__law_point : Stmt := top 19
abbrev N__law_point : List Str := ["p", "q", "a", "b"]
abbrev P__law_point : List Str := ["p", "q"]
theorem sc__law_point : FnScope N__law_point P__law_point (defScope s__law_point) := ⟨rfl, rfl, rfl, by decide +kernel, rfl, by decide +kernel, by decide +kernel⟩
abbrev s__law_less : Stmt := top 20
abbrev N__law_less : List Str := ["one", "other"]
abbrev P__law_less : List Str := ["one", "other"]
theorem sc__law_less : FnScope N__law_less P__law_less (defScope s__law_less) := ⟨rfl, rfl, rfl, by decide +kernel, rfl, by decide +kernel, by decide +kernel⟩
abbrev s__law_whole : Stmt := top 21
abbrev N__law_whole : List Str := ["source", "road", "number"]
abbrev P__law_whole : List Str := ["source"]
theorem sc__law_whole : FnScope N__law_whole P__law_whole (defScope s__law_whole) := ⟨rfl, rfl, rfl, by decide +kernel, rfl, by decide +kernel, by decide +kernel⟩
abbrev s__law_refused : Stmt := top 22
abbrev N__law_refused : List Str := ["p", "e", "told"]
abbrev P__law_refused : List Str := ["p"]
theorem sc__law_refused : FnScope N__law_refused P__law_refused (defScope s__law_refused) := ⟨rfl, rfl, rfl, by decide +kernel, rfl, by decide +kernel, by decide +kernel⟩
abbrev s__law_is_pair : Stmt := top 23
abbrev N__law_is_pair : List Str := ["value", "one"]
abbrev P__law_is_pair : List Str := ["value"]
theorem sc__law_is_pair : FnScope N__law_is_pair P__law_is_pair (defScope s__law_is_pair) := ⟨rfl, rfl, rfl, by decide +kernel, rfl, by decide +kernel, by decide +kernel⟩
abbrev s__law_copies_right : Stmt := top 24
abbrev N__law_copies_right : List Str := ["odd", "shown", "name", "unknown", "member", "point", "number", "told", "one"]
abbrev P__law_copies_right : List Str := []
theorem sc__law_copies_right : FnScope N__law_copies_right P__law_copies_right (defScope s__law_copies_right) := ⟨rfl, rfl, rfl, by decide +kernel, rfl, by decide +kernel, by decide +kernel⟩
abbrev s_law : Stmt := top 25
abbrev N_law : List Str := ["script", "source", "known", "lap", "p", "q", "factor", "due", "one", "other", "told"]
abbrev P_law : List Str := ["script"]
theorem sc_law : FnScope N_law P_law (defScope s_law) := ⟨rfl, rfl, rfl, by decide +kernel, rfl, by decide +kernel, by decide +kernel⟩
structure Txt (mg : Str → Option Value) : Prop where
  b_abs : mg "abs" = none
  b_int : mg "int" = none
  b_len : mg "len" = none
  b_range : mg "range" = none
  b_all : mg "all" = none
  b_list : mg "list" = none
  b_tuple : mg "tuple" = none
  b_isinstance : mg "isinstance" = none
  b_repr : mg "repr" = none
  b_bool : mg "bool" = none
  b_dict : mg "dict" = none
  i_gcd : mg "gcd" = some (.builtin "math.gcd")
structure Ds (K : PySem.W.Frag) (mg : Str → Option Value) where
  T : Txt mg
  f_copied : Addr
  fd_copied : FuncData
  D_copied : DefAt K mg "copied" s_copied P_copied f_copied fd_copied
  f_parts_in : Addr
  fd_parts_in : FuncData
  D_parts_in : DefAt K mg "parts_in" s_parts_in P_parts_in f_parts_in fd_parts_in
  f_put_together : Addr
  fd_put_together : FuncData
  D_put_together : DefAt K mg "put_together" s_put_together P_put_together f_put_together fd_put_together
  f_make_point : Addr
  fd_make_point : FuncData
  D_make_point : DefAt K mg "make_point" s_make_point P_make_point f_make_point fd_make_point
  f_is_before : Addr
  fd_is_before : FuncData
  D_is_before : DefAt K mg "is_before" s_is_before P_is_before f_is_before fd_is_before
  f__law_open_cells : Addr
  fd__law_open_cells : FuncData
  D__law_open_cells : DefAt K mg "_law_open_cells" s__law_open_cells P__law_open_cells f__law_open_cells fd__law_open_cells
  f__law_pick : Addr
  fd__law_pick : FuncData
  D__law_pick : DefAt K mg "_law_pick" s__law_pick P__law_pick f__law_pick fd__law_pick
  f__law_point : Addr
  fd__law_point : FuncData
  D__law_point : DefAt K mg "_law_point" s__law_point P__law_point f__law_point fd__law_point
  f__law_less : Addr
  fd__law_less : FuncData
  D__law_less : DefAt K mg "_law_less" s__law_less P__law_less f__law_less fd__law_less
  f__law_whole : Addr
  fd__law_whole : FuncData
  D__law_whole : DefAt K mg "_law_whole" s__law_whole P__law_whole f__law_whole fd__law_whole
  f__law_refused : Addr
  fd__law_refused : FuncData
  D__law_refused : DefAt K mg "_law_refused" s__law_refused P__law_refused f__law_refused fd__law_refused
  f__law_is_pair : Addr
  fd__law_is_pair : FuncData
  D__law_is_pair : DefAt K mg "_law_is_pair" s__law_is_pair P__law_is_pair f__law_is_pair fd__law_is_pair
  f__law_copies_right : Addr
  fd__law_copies_right : FuncData
  D__law_copies_right : DefAt K mg "_law_copies_right" s__law_copies_right P__law_copies_right f__law_copies_right fd__law_copies_right
  f_law : Addr
  fd_law : FuncData
  D_law : DefAt K mg "law" s_law P_law f_law fd_law

/-! ### the cells that are drawn from -/
def srcD (c : Addr) (l m t : Int) : List (Key × V) := [(.inr "cells", .ref c), (.inr "left", .int l), (.inr "mixed", .int m), (.inr "turn", .int t)]
structure SrcAt (H : Hp) (d c : Addr) : Prop where
  ex : ∃ (cs : List Int) (l m t : Int), H d = some (.dK (srcD c l m t)) ∧ H c = some (.lst (cs.map V.int)) ∧ (∀ z ∈ cs, 0 ≤ z) ∧ cs.length ≤ 63 ∧ 0 ≤ l ∧ 0 ≤ m ∧ m < 2147483648
def Mdc (d c : Addr) : Addr → Prop := fun b => b = d ∨ b = c
theorem SrcAt.other {H : Hp} {d c p : Addr} {o : HO} (h : SrcAt H d c) (h1 : d ≠ p) (h2 : c ≠ p) : SrcAt (upd H p o) d c := by
  obtain ⟨cs, l, m, t, e1, e2, r⟩ := h.ex
  exact ⟨cs, l, m, t, by rw [upd_ne h1]; exact e1, by rw [upd_ne h2]; exact e2, r⟩
theorem SrcAt.d_ne {H : Hp} {d c p : Addr} (h : SrcAt H d c) (n : H p = none) : d ≠ p := by
  obtain ⟨cs, l, m, t, e1, e2, r⟩ := h.ex
  exact ne_of_none e1 n
theorem SrcAt.c_ne {H : Hp} {d c p : Addr} (h : SrcAt H d c) (n : H p = none) : c ≠ p := by
  obtain ⟨cs, l, m, t, e1, e2, r⟩ := h.ex
  exact ne_of_none e2 n
theorem SrcAt.new {H : Hp} {d c p : Addr} {o : HO} (h : SrcAt H d c) (n : H p = none) : SrcAt (upd H p o) d c := h.other (h.d_ne n) (h.c_ne n)
theorem SrcAt.keep {H H' : Hp} {d c : Addr} (h : SrcAt H d c) (k : Kp M0 H H') : SrcAt H' d c := by
  obtain ⟨cs, l, m, t, e1, e2, r⟩ := h.ex
  exact ⟨cs, l, m, t, k _ _ e1 (fun z => z), k _ _ e2 (fun z => z), r⟩
theorem SrcAt.tk {H H' : Hp} {d c : Addr} (h : SrcAt H d c) (k : Kp (Mdc d c) H H') : Tk H H' := k.tk fun b o m e => by
  obtain ⟨cs, l, m', t, e1, e2, r⟩ := h.ex
  rcases m with rfl | rfl
  · rw [e1] at e; cases e; rfl
  · rw [e2] at e; cases e; rfl
theorem src_c {H : Hp} {d c : Addr} {l m t : Int} (h : H d = some (.dK (srcD c l m t))) : DGet H d (.str "cells") (some (.ref c)) := by
  have e : valV (srcD c l m t) (.inr ("cells" : Str) : Key) = some (V.ref c) := by simp [valV, srcD]
  rw [← e]; exact DGet.k (k := Sum.inr "cells") h
theorem src_l {H : Hp} {d c : Addr} {l m t : Int} (h : H d = some (.dK (srcD c l m t))) : DGet H d (.str "left") (some (.int l)) := by
  have e : valV (srcD c l m t) (.inr ("left" : Str) : Key) = some (V.int l) := by
    have e1 : ¬ (("cells" : Str) = "left") := by decide +kernel
    simp [valV, srcD, e1]
  rw [← e]; exact DGet.k (k := Sum.inr "left") h
theorem src_m {H : Hp} {d c : Addr} {l m t : Int} (h : H d = some (.dK (srcD c l m t))) : DGet H d (.str "mixed") (some (.int m)) := by
  have e : valV (srcD c l m t) (.inr ("mixed" : Str) : Key) = some (V.int m) := by
    have e1 : ¬ (("cells" : Str) = "mixed") := by decide +kernel
    have e2 : ¬ (("left" : Str) = "mixed") := by decide +kernel
    simp [valV, srcD, e1, e2]
  rw [← e]; exact DGet.k (k := Sum.inr "mixed") h
theorem src_t {H : Hp} {d c : Addr} {l m t : Int} (h : H d = some (.dK (srcD c l m t))) : DGet H d (.str "turn") (some (.int t)) := by
  have e : valV (srcD c l m t) (.inr ("turn" : Str) : Key) = some (V.int t) := by
    have e1 : ¬ (("cells" : Str) = "turn") := by decide +kernel
    have e2 : ¬ (("left" : Str) = "turn") := by decide +kernel
    have e3 : ¬ (("mixed" : Str) = "turn") := by decide +kernel
    simp [valV, srcD, e1, e2, e3]
  rw [← e]; exact DGet.k (k := Sum.inr "turn") h
theorem put_l {H : Hp} {d c : Addr} {l m t l' : Int} (h : H d = some (.dK (srcD c l m t))) : DPut H d (.str "left") (.int l') (upd H d (.dK (srcD c l' m t))) := by
  have e : putK (srcD c l m t) (.inr ("left" : Str) : Key) (.int l') = srcD c l' m t := by
    have e1 : ¬ (("cells" : Str) = "left") := by decide +kernel
    have e2 : ¬ (("mixed" : Str) = "left") := by decide +kernel
    have e3 : ¬ (("turn" : Str) = "left") := by decide +kernel
    simp [putK, srcD, e1, e2, e3]
  rw [← e]; exact DPut.k (k := Sum.inr "left") h (by show 4 < sizeLine; decide)
theorem put_t {H : Hp} {d c : Addr} {l m t t' : Int} (h : H d = some (.dK (srcD c l m t))) : DPut H d (.str "turn") (.int t') (upd H d (.dK (srcD c l m t'))) := by
  have e : putK (srcD c l m t) (.inr ("turn" : Str) : Key) (.int t') = srcD c l m t' := by
    have e1 : ¬ (("cells" : Str) = "turn") := by decide +kernel
    have e2 : ¬ (("left" : Str) = "turn") := by decide +kernel
    have e3 : ¬ (("mixed" : Str) = "turn") := by decide +kernel
    simp [putK, srcD, e1, e2, e3]
  rw [← e]; exact DPut.k (k := Sum.inr "turn") h (by show 4 < sizeLine; decide)

section
variable {P : Program} {w : World} {K : PySem.W.Frag} {mg : Str → Option Value} {base : Heap}

/-! ### _law_open_cells -/
def sp__law_open_cells (K : PySem.W.Frag) : Sp := fun vs H Q _ => ∃ (a : Addr) (ns : List Int), vs = [.ref a] ∧ SqL K H a (ns.map V.int) ∧ ns.length ≤ 63 ∧
  ∀ (d c : Addr) (H' : Hp), Kp M0 H H' → H d = none → H c = none → SrcAt H' d c → d ≠ c → Q (.ref d) H'
theorem ok__law_open_cells (W : Ds K mg) : FnOk P w K mg base CX0 1 W.f__law_open_cells W.fd__law_open_cells P__law_open_cells (sp__law_open_cells K) := by
  refine W.D__law_open_cells.F.ok sc__law_open_cells (fun vs H Q E h => ?len) (fun cdv A outer s H vs Q E hr h => ?body)
  · obtain ⟨a, ns, rfl, _⟩ := h
    rfl
  · obtain ⟨a, ns, rfl, hS, hl, k⟩ := h
    have nd := sc__law_open_cells.nd
    have hu := hu_of hr
    have hu64 := hr.units
    have hu65 := hu65_of hr
    refine ⟨_, (pss_cons (ps_set (i := 1) nd rfl (by first | exact Or.inl rfl | exact Or.inr rfl) pe_int)
  (pss_cons (ps_for PassesOwn.never rfl (i_list K (pv 0)) (pg_name (i := 2) nd rfl (by first | exact Or.inl rfl | exact Or.inr rfl))
     (pss_one (ps_set (i := 1) nd rfl (by first | exact Or.inl rfl | exact Or.inr rfl) (pe_op op_mod (pe_callTy call_int1 (by rfl) W.T.b_int (by decide +kernel) (pa_cons (pe_op op_add (pe_op op_add (pe_op op_mulK (pv 1) pe_int) (pe_op op_mulK (pv 2) pe_int)) pe_int) pa_nil)) pe_int))))
  (pss_cons (ps_setLc (i := 3) (own := [("cell", 2)]) rfl nd rfl rfl (sw_true rfl rfl rfl (by decide +kernel)) (i_list K (pv 0)) (blkOk_by (N := N__law_open_cells) (sc := defScope s__law_open_cells) (by decide +kernel)) (fun _ _ _ _ _ => (pg_name (i := 2) nd rfl (by first | exact Or.inl rfl | exact Or.inr rfl))) (fun _ _ _ _ _ => pts_nil) (fun _ _ _ _ _ => (pe_callB call_abs (by rfl) W.T.b_abs (by decide +kernel) (pa_cons (pv 2) pa_nil))))
  (pss_one (ps_ret (pe_disp (pps_cons pe_str (e_revL K (pv 3)) (pps_cons pe_str pe_int (pps_cons pe_str (pv 1) (pps_cons pe_str pe_int pps_nil)))) (by rfl) (by rfl) (by decide) (by decide))))))), ?_⟩
    simp only [tSeq, tIfS, tNext, tRet, tRetN, tAsg, tDrop, tPar, tCons, tNil, tCB, tVar, tC, tOp, rI, rI0, rU, tTest, tB, tTup, tLst, gName, tIf, tAnd, tOr, tNot, tAndV, tOrV, tNotV, tUn, tCall, tChain, tSl, tNoPart, tPart, tBM, tBM0, tDGet, sDPut, rIxT, rIxL, rMulK, rLenK, rLstK, tTruK, gTup, gCons, gNil, rEq, rNe, scal, tNever, rMulK, rGcd, L2.start, List.map, List.length, List.replicate, List.cons_append, List.nil_append, List.append_nil, List.set, List.set_cons_zero, List.set_cons_succ, List.getElem?_cons_succ, List.getElem?_cons_zero, Option.some.injEq, List.cons.injEq, V.int.injEq, V.str.injEq, V.bl.injEq, V.ref.injEq, and_true, true_and, exists_eq_left, exists_eq_left', exists_eq_right, exists_eq_right', exists_eq, exists_and_left, exists_and_right, and_assoc, exists_false, false_and, and_false, or_false, false_or, reduceCtorEq, Nat.reduceAdd, Nat.reduceSub, List.append_assoc, eq_self, if_true, if_false, Bool.false_eq_true, decide_eq_true_eq, List.length_cons, List.length_nil]
    have hk : ∀ (i : Nat) (x : V), (ns.map V.int)[i]? = some x → ∃ z, ns[i]? = some z ∧ x = .int z := fun i x hi => by
      rw [List.getElem?_map] at hi
      cases e : ns[i]? with
      | none => rw [e] at hi; cases hi
      | some z => rw [e] at hi; exact ⟨z, rfl, (Option.some.inj hi).symm⟩
    refine ⟨_, rfl, a, rfl, ⟨_, hS⟩, for_list (K := K) (a := a) (xs := ns.map V.int) (fun i σ H' => H' = H ∧ ∃ (m : Int) (v : Option V), σ = [some (.ref a), some (.int m), v, none] ∧ 0 ≤ m ∧ m < 2147483629) ⟨rfl, 11, none, rfl, by omega, by omega⟩ (fun i σ H' _ h => h.1 ▸ hS) ?_ ?_⟩
    · rintro i x σ H' hi ⟨rfl, m, v, rfl, h0, h1⟩
      obtain ⟨z, hz, rfl⟩ := hk i x hi
      simp only [tSeq, tIfS, tNext, tRet, tRetN, tAsg, tDrop, tPar, tCons, tNil, tCB, tVar, tC, tOp, rI, rI0, rU, tTest, tB, tTup, tLst, gName, tIf, tAnd, tOr, tNot, tAndV, tOrV, tNotV, tUn, tCall, tChain, tSl, tNoPart, tPart, tBM, tBM0, tDGet, sDPut, rIxT, rIxL, rMulK, rLenK, rLstK, tTruK, gTup, gCons, gNil, rEq, rNe, scal, tNever, rMulK, rGcd, L2.start, List.map, List.length, List.replicate, List.cons_append, List.nil_append, List.append_nil, List.set, List.set_cons_zero, List.set_cons_succ, List.getElem?_cons_succ, List.getElem?_cons_zero, Option.some.injEq, List.cons.injEq, V.int.injEq, V.str.injEq, V.bl.injEq, V.ref.injEq, and_true, true_and, exists_eq_left, exists_eq_left', exists_eq_right, exists_eq_right', exists_eq, exists_and_left, exists_and_right, and_assoc, exists_false, false_and, and_false, or_false, false_or, reduceCtorEq, Nat.reduceAdd, Nat.reduceSub, List.append_assoc, eq_self, if_true, if_false, Bool.false_eq_true, decide_eq_true_eq, List.length_cons, List.length_nil]
      refine ⟨mulOk_r (by omega) (by omega), mulOk_r (by omega) (by omega), by omega, ?_, ?_⟩
      · exact Int.emod_nonneg _ (by omega)
      · exact Int.emod_lt_of_pos _ (by omega)
    · rintro σ H' ⟨rfl, m, v, rfl, h0, h1⟩
      simp only [tSeq, tIfS, tNext, tRet, tRetN, tAsg, tDrop, tPar, tCons, tNil, tCB, tVar, tC, tOp, rI, rI0, rU, tTest, tB, tTup, tLst, gName, tIf, tAnd, tOr, tNot, tAndV, tOrV, tNotV, tUn, tCall, tChain, tSl, tNoPart, tPart, tBM, tBM0, tDGet, sDPut, rIxT, rIxL, rMulK, rLenK, rLstK, tTruK, gTup, gCons, gNil, rEq, rNe, scal, tNever, rMulK, rGcd, L2.start, List.map, List.length, List.replicate, List.cons_append, List.nil_append, List.append_nil, List.set, List.set_cons_zero, List.set_cons_succ, List.getElem?_cons_succ, List.getElem?_cons_zero, Option.some.injEq, List.cons.injEq, V.int.injEq, V.str.injEq, V.bl.injEq, V.ref.injEq, and_true, true_and, exists_eq_left, exists_eq_left', exists_eq_right, exists_eq_right', exists_eq, exists_and_left, exists_and_right, and_assoc, exists_false, false_and, and_false, or_false, false_or, reduceCtorEq, Nat.reduceAdd, Nat.reduceSub, List.append_assoc, eq_self, if_true, if_false, Bool.false_eq_true, decide_eq_true_eq, List.length_cons, List.length_nil]
      refine tlcL ?_
      refine ⟨_, rfl, lcL (ns.map PyData.int) (fun _ => true) (fun d => match d with | .int i => .int (if i < 0 then -i else i) | _ => d) (by rw [List.length_map, sizeLine_eq]; omega) hS (dps_ints ns) (tupDs_all.mpr fun d h => ?_) (fun d h _ => ?_) htt_yes (fun i d x H1 e _ hx k1 Q' q => ?_) fun D H1 vs hD k1 hd1 ha => ?_⟩
      · obtain ⟨z, _, rfl⟩ := List.mem_map.mp h; rfl
      · obtain ⟨z, _, rfl⟩ := List.mem_map.mp h; rfl
      · obtain ⟨z, _, rfl⟩ := List.mem_map.mp (List.mem_of_getElem? e)
        cases hx
        simp only [tSeq, tIfS, tNext, tRet, tRetN, tAsg, tDrop, tPar, tCons, tNil, tCB, tVar, tC, tOp, rI, rI0, rU, tTest, tB, tTup, tLst, gName, tIf, tAnd, tOr, tNot, tAndV, tOrV, tNotV, tUn, tCall, tChain, tSl, tNoPart, tPart, tBM, tBM0, tDGet, sDPut, rIxT, rIxL, rMulK, rLenK, rLstK, tTruK, gTup, gCons, gNil, rEq, rNe, scal, tNever, rMulK, rGcd, L2.start, List.map, List.length, List.replicate, List.cons_append, List.nil_append, List.append_nil, List.set, List.set_cons_zero, List.set_cons_succ, List.getElem?_cons_succ, List.getElem?_cons_zero, Option.some.injEq, List.cons.injEq, V.int.injEq, V.str.injEq, V.bl.injEq, V.ref.injEq, and_true, true_and, exists_eq_left, exists_eq_left', exists_eq_right, exists_eq_right', exists_eq, exists_and_left, exists_and_right, and_assoc, exists_false, false_and, and_false, or_false, false_or, reduceCtorEq, Nat.reduceAdd, Nat.reduceSub, List.append_assoc, eq_self, if_true, if_false, Bool.false_eq_true, decide_eq_true_eq, List.length_cons, List.length_nil]
        exact q _ _ (Kp.refl _) (.int _)
      · have hvs : ∃ cs : List Int, vs = cs.map V.int ∧ (∀ z ∈ cs, 0 ≤ z) ∧ cs.length = ns.length := by
          have hf : ∀ (l : List Int) (vs : List V), DpAll K H1 vs (((l.map PyData.int).filter fun _ => true).map (fun d => match d with | .int i => .int (if i < 0 then -i else i) | _ => d)) → ∃ cs : List Int, vs = cs.map V.int ∧ (∀ z ∈ cs, 0 ≤ z) ∧ cs.length = l.length := by
            intro l
            induction l with
            | nil => intro vs h; cases h; exact ⟨[], rfl, by simp, rfl⟩
            | cons n r ih =>
              intro vs h
              simp only [List.map_cons, List.filter_cons_of_pos] at h
              cases h with
              | cons h1 h2 =>
                cases h1
                obtain ⟨cs, rfl, hc, hl⟩ := ih _ h2
                refine ⟨(if n < 0 then -n else n) :: cs, rfl, fun z hz => ?_, by simp [hl]⟩
                rcases List.mem_cons.mp hz with rfl | hz
                · split <;> omega
                · exact hc z hz
          exact hf ns vs ha
        obtain ⟨cs, rfl, hc0, hcl⟩ := hvs
        simp only [tDisp, tPairs, tRevL, tSeq, tIfS, tNext, tRet, tRetN, tAsg, tDrop, tPar, tCons, tNil, tCB, tVar, tC, tOp, rI, rI0, rU, tTest, tB, tTup, tLst, gName, tIf, tAnd, tOr, tNot, tAndV, tOrV, tNotV, tUn, tCall, tChain, tSl, tNoPart, tPart, tBM, tBM0, tDGet, sDPut, rIxT, rIxL, rMulK, rLenK, rLstK, tTruK, gTup, gCons, gNil, rEq, rNe, scal, tNever, rMulK, rGcd, L2.start, List.map, List.length, List.replicate, List.cons_append, List.nil_append, List.append_nil, List.set, List.set_cons_zero, List.set_cons_succ, List.getElem?_cons_succ, List.getElem?_cons_zero, Option.some.injEq, List.cons.injEq, V.int.injEq, V.str.injEq, V.bl.injEq, V.ref.injEq, and_true, true_and, exists_eq_left, exists_eq_left', exists_eq_right, exists_eq_right', exists_eq, exists_and_left, exists_and_right, and_assoc, exists_false, false_and, and_false, or_false, false_or, reduceCtorEq, Nat.reduceAdd, Nat.reduceSub, List.append_assoc, eq_self, if_true, if_false, Bool.false_eq_true, decide_eq_true_eq, List.length_cons, List.length_nil]
        intro p hp
        have npD : D ≠ p := ne_of_none hd1 hp
        refine ⟨_, Or.inl (Or.inl (by rw [upd_ne npD]; exact hd1)), fun c hc => ?_⟩
        have npc : p ≠ c := ne_of_none (upd_same (H := H1) (o := HO.dK [])) hc
        have hcn : H1 c = none := by rw [upd_ne npc.symm] at hc; exact hc
        refine ⟨by rw [upd_ne npc, upd_same], srcD c 1 m 0, by simp [srcD, kV], by simp [srcD], ?_⟩
        have e1 : mergeK [] (srcD c 1 m 0) = srcD c 1 m 0 := by
          have e1 : ¬ (("cells" : Str) = "left") := by decide +kernel
          have e2 : ¬ (("cells" : Str) = "mixed") := by decide +kernel
          have e3 : ¬ (("cells" : Str) = "turn") := by decide +kernel
          have e4 : ¬ (("left" : Str) = "mixed") := by decide +kernel
          have e5 : ¬ (("left" : Str) = "turn") := by decide +kernel
          have e6 : ¬ (("mixed" : Str) = "turn") := by decide +kernel
          simp [mergeK, srcD, putK, e1, e2, e3, e4, e5, e6]
        rw [e1]
        have n1 : H' p = none := by
          cases q : H' p with
          | none => rfl
          | some o => rw [k1 p o q (fun z => z)] at hp; cases hp
        have n2 : H' c = none := by
          cases q : H' c with
          | none => rfl
          | some o => rw [k1 c o q (fun z => z)] at hcn; cases hcn
        refine k p c _ (((k1.at n1).at n2).at n1) n1 n2 ⟨cs.reverse, 1, m, 0, upd_same, ?_, fun z hz => hc0 z (List.mem_reverse.mp hz), by rw [List.length_reverse, hcl]; exact hl, by omega, h0, by omega⟩ npc
        rw [upd_ne npc.symm, upd_same, List.map_reverse]

/-! ### _law_pick -/
def sp__law_pick (K : PySem.W.Frag) : Sp := fun vs H Q _ => ∃ (d c : Addr) (most : Int), vs = [.ref d, .int most] ∧ SrcAt H d c ∧ d ≠ c ∧ most.natAbs < 2 ^ 8000 ∧
  ∀ (r : Int) (H' : Hp), 0 ≤ r → (r < most ∨ r = 0) → Kp (Mdc d c) H H' → SrcAt H' d c → Q (.int r) H'
theorem ok__law_pick (W : Ds K mg) : FnOk P w K mg base CX0 1 W.f__law_pick W.fd__law_pick P__law_pick (sp__law_pick K) := by
  refine W.D__law_pick.F.ok sc__law_pick (fun vs H Q E h => ?len) (fun cdv A outer s H vs Q E hr h => ?body)
  · obtain ⟨d, c, most, rfl, _⟩ := h
    rfl
  · obtain ⟨d, c, most, rfl, hS, ndc, hm, k⟩ := h
    have nd := sc__law_pick.nd
    have hu := hu_of hr
    have hu64 := hr.units
    have hu65 := hu65_of hr
    refine ⟨_, (pss_cons (ps_if (pt_cmpR op_lt (pv 1) pe_int (nomark _))
     (pss_one (ps_ret pe_int))
     pss_nil)
  (pss_cons (ps_set (i := 2) nd rfl (by first | exact Or.inl rfl | exact Or.inr rfl) (pe_dget hu (pv 0) pe_str (fun _ _ => rfl)))
  (pss_cons (ps_while PassesOwn.never (PW.pt (pw_and (pt_cmpR op_lt (pe_dget hu (pv 0) pe_str (fun _ _ => rfl)) pe_int (nomark _)) (pw_and1 (pt_cmpR op_gt (pe_callB (c_len K) (by rfl) W.T.b_len (by decide +kernel) (pa_cons (pv 2) pa_nil)) pe_int (nomark _)))))
     (pss_one (ps_dput hu (pv 0) pe_str (e_bm0 K (pe_bm0 PySem.F.plainAttrs_list PySem.F.slot_list_pop PySem.F.type_list_pop mt_pop (pv 2))) (by rfl))))
  (pss_cons (ps_set (i := 3) nd rfl (by first | exact Or.inl rfl | exact Or.inr rfl) (pe_dget hu (pv 0) pe_str (fun _ _ => rfl)))
  (pss_cons (ps_if (pt_cmpR op_gt (pv 3) pe_int (nomark _))
     (pss_cons (ps_dput hu (pv 0) pe_str (pe_op op_fdivW (pv 3) (pv 1)) (by rfl))
      (pss_one (ps_ret (pe_op op_mod (pe_callTy call_int1 (by rfl) W.T.b_int (by decide +kernel) (pa_cons (pv 3) pa_nil)) (pv 1)))))
     pss_nil)
  (pss_cons (ps_dput hu (pv 0) pe_str (pe_op op_add (pe_dget hu (pv 0) pe_str (fun _ _ => rfl)) pe_int) (by rfl))
  (pss_cons (ps_set (i := 4) nd rfl (by first | exact Or.inl rfl | exact Or.inr rfl) (pe_dget hu (pv 0) pe_str (fun _ _ => rfl)))
  (pss_cons (ps_set (i := 5) nd rfl (by first | exact Or.inl rfl | exact Or.inr rfl) (pe_op op_mod (pe_callTy call_int1 (by rfl) W.T.b_int (by decide +kernel) (pa_cons (pe_op op_add (pe_dget hu (pv 0) pe_str (fun _ _ => rfl)) (pe_op op_mulK (pv 4) pe_int)) pa_nil)) pe_int))
  (pss_cons (ps_set (i := 5) nd rfl (by first | exact Or.inl rfl | exact Or.inr rfl) (pe_op op_mod (pe_callTy call_int1 (by rfl) W.T.b_int (by decide +kernel) (pa_cons (pe_op op_add (pe_op op_mulK (pv 5) (pv 5)) (pe_op op_mulK (pv 4) pe_int)) pa_nil)) pe_int))
  (pss_one (ps_ret (pe_op op_mod (pe_callTy call_int1 (by rfl) W.T.b_int (by decide +kernel) (pa_cons (pe_op op_fdivW (pv 5) pe_int) pa_nil)) (pv 1))))))))))))), ?_⟩
    simp only [tSeq, tIfS, tNext, tRet, tRetN, tAsg, tDrop, tPar, tCons, tNil, tCB, tVar, tC, tOp, rI, rI0, rU, tTest, tB, tTup, tLst, gName, tIf, tAnd, tOr, tNot, tAndV, tOrV, tNotV, tUn, tCall, tChain, tSl, tNoPart, tPart, tBM, tBM0, tDGet, sDPut, rIxT, rIxL, rMulK, rLenK, rLstK, tTruK, gTup, gCons, gNil, rEq, rNe, scal, tNever, rMulK, rGcd, L2.start, List.map, List.length, List.replicate, List.cons_append, List.nil_append, List.append_nil, List.set, List.set_cons_zero, List.set_cons_succ, List.getElem?_cons_succ, List.getElem?_cons_zero, Option.some.injEq, List.cons.injEq, V.int.injEq, V.str.injEq, V.bl.injEq, V.ref.injEq, and_true, true_and, exists_eq_left, exists_eq_left', exists_eq_right, exists_eq_right', exists_eq, exists_and_left, exists_and_right, and_assoc, exists_false, false_and, and_false, or_false, false_or, reduceCtorEq, Nat.reduceAdd, Nat.reduceSub, List.append_assoc, eq_self, if_true, if_false, Bool.false_eq_true, decide_eq_true_eq, List.length_cons, List.length_nil]
    obtain ⟨cs, l, m, t, hd, hc, hcs, hcl, hl0, hm0, hm1⟩ := hS.ex
    refine ite2 (fun h2 => ?_) (fun h2 => ?_)
    · exact k 0 H (by omega) (Or.inr rfl) (Kp.refl H) hS
    have hmost : 2 ≤ most := by simpa using h2
    refine ⟨_, src_c hd, ?_⟩
    refine while_at (fun σ H' => Kp (Mdc d c) H H' ∧ SrcAt H' d c ∧ σ = [some (.ref d), some (.int most), some (.ref c), none, none, none]) (fun _ H' => match H' c with | some (.lst xs) => xs.length | _ => 0) ⟨Kp.refl H, hS, rfl⟩ ?_
    rintro σ H' ⟨k1, hS1, rfl⟩
    clear hd hc hcs hcl hl0 hm0 hm1 cs l m t hS
    obtain ⟨cs, l, m, t, hd, hc, hcs, hcl, hl0, hm0, hm1⟩ := hS1.ex
    simp only [tSeq, tIfS, tNext, tRet, tRetN, tAsg, tDrop, tPar, tCons, tNil, tCB, tVar, tC, tOp, rI, rI0, rU, tTest, tB, tTup, tLst, gName, tIf, tAnd, tOr, tNot, tAndV, tOrV, tNotV, tUn, tCall, tChain, tSl, tNoPart, tPart, tBM, tBM0, tDGet, sDPut, rIxT, rIxL, rMulK, rLenK, rLstK, tTruK, gTup, gCons, gNil, rEq, rNe, scal, tNever, rMulK, rGcd, L2.start, List.map, List.length, List.replicate, List.cons_append, List.nil_append, List.append_nil, List.set, List.set_cons_zero, List.set_cons_succ, List.getElem?_cons_succ, List.getElem?_cons_zero, Option.some.injEq, List.cons.injEq, V.int.injEq, V.str.injEq, V.bl.injEq, V.ref.injEq, and_true, true_and, exists_eq_left, exists_eq_left', exists_eq_right, exists_eq_right', exists_eq, exists_and_left, exists_and_right, and_assoc, exists_false, false_and, and_false, or_false, false_or, reduceCtorEq, Nat.reduceAdd, Nat.reduceSub, List.append_assoc, eq_self, if_true, if_false, Bool.false_eq_true, decide_eq_true_eq, List.length_cons, List.length_nil]
    refine ⟨_, src_l hd, ?_⟩
    simp only [tSeq, tIfS, tNext, tRet, tRetN, tAsg, tDrop, tPar, tCons, tNil, tCB, tVar, tC, tOp, rI, rI0, rU, tTest, tB, tTup, tLst, gName, tIf, tAnd, tOr, tNot, tAndV, tOrV, tNotV, tUn, tCall, tChain, tSl, tNoPart, tPart, tBM, tBM0, tDGet, sDPut, rIxT, rIxL, rMulK, rLenK, rLstK, tTruK, gTup, gCons, gNil, rEq, rNe, scal, tNever, rMulK, rGcd, L2.start, List.map, List.length, List.replicate, List.cons_append, List.nil_append, List.append_nil, List.set, List.set_cons_zero, List.set_cons_succ, List.getElem?_cons_succ, List.getElem?_cons_zero, Option.some.injEq, List.cons.injEq, V.int.injEq, V.str.injEq, V.bl.injEq, V.ref.injEq, and_true, true_and, exists_eq_left, exists_eq_left', exists_eq_right, exists_eq_right', exists_eq, exists_and_left, exists_and_right, and_assoc, exists_false, false_and, and_false, or_false, false_or, reduceCtorEq, Nat.reduceAdd, Nat.reduceSub, List.append_assoc, eq_self, if_true, if_false, Bool.false_eq_true, decide_eq_true_eq, List.length_cons, List.length_nil]
    have cSq : SqL K H' c (cs.map V.int) := Or.inl (Or.inl hc)
    refine ite2 (fun g1 => ?_) (fun g1 => ?_)
    · refine ⟨_, Or.inl cSq, ?_⟩
      refine ite2 (fun g2 => ?_) (fun g2 => ?_)
      · refine ⟨_, fun _ _ h => h, Or.inl ⟨rfl, _, cSq⟩, ?_⟩
        have hne : cs ≠ [] := by
          rintro rfl
          simp at g2
        refine ⟨c, _, .int (cs.getLast hne), rfl, rfl, hc, ?_, ?_⟩
        · rw [List.getElem?_map, List.length_map, ← List.getLast?_eq_getElem?, List.getLast?_eq_getLast hne]; rfl
        have hd' : (upd H' c (.lst (cs.map V.int).dropLast)) d = some (.dK (srcD c l m t)) := by rw [upd_ne ndc]; exact hd
        refine ⟨_, put_l hd', ?_⟩
        have hc' : (upd (upd H' c (.lst (cs.map V.int).dropLast)) d (.dK (srcD c (cs.getLast hne) m t))) c = some (.lst (cs.dropLast.map V.int)) := by
          rw [upd_ne ndc.symm, upd_same, List.map_dropLast]
        refine ⟨k1.trans fun b o e n => ?_, ⟨cs.dropLast, _, m, t, upd_same, hc', fun z hz => hcs z ((List.dropLast_sublist cs).subset hz), by rw [List.length_dropLast]; omega, hcs _ (List.getLast_mem hne), hm0, hm1⟩, rfl, ?_⟩
        · rw [upd_ne (fun z => n (Or.inl z)), upd_ne (fun z => n (Or.inr z))]; exact e
        · rw [hc', hc]
          simp only [List.length_map, List.length_dropLast]
          have := List.length_pos_iff.mpr hne
          omega
      · skip
        refine ⟨_, src_l hd, ?_⟩
        simp only [tSeq, tIfS, tNext, tRet, tRetN, tAsg, tDrop, tPar, tCons, tNil, tCB, tVar, tC, tOp, rI, rI0, rU, tTest, tB, tTup, tLst, gName, tIf, tAnd, tOr, tNot, tAndV, tOrV, tNotV, tUn, tCall, tChain, tSl, tNoPart, tPart, tBM, tBM0, tDGet, sDPut, rIxT, rIxL, rMulK, rLenK, rLstK, tTruK, gTup, gCons, gNil, rEq, rNe, scal, tNever, rMulK, rGcd, L2.start, List.map, List.length, List.replicate, List.cons_append, List.nil_append, List.append_nil, List.set, List.set_cons_zero, List.set_cons_succ, List.getElem?_cons_succ, List.getElem?_cons_zero, Option.some.injEq, List.cons.injEq, V.int.injEq, V.str.injEq, V.bl.injEq, V.ref.injEq, and_true, true_and, exists_eq_left, exists_eq_left', exists_eq_right, exists_eq_right', exists_eq, exists_and_left, exists_and_right, and_assoc, exists_false, false_and, and_false, or_false, false_or, reduceCtorEq, Nat.reduceAdd, Nat.reduceSub, List.append_assoc, eq_self, if_true, if_false, Bool.false_eq_true, decide_eq_true_eq, List.length_cons, List.length_nil]
        refine ite2 (fun g3 => ?_) (fun g3 => ?_)
        · refine ⟨wide_div (by omega) hm (by omega) (by omega), _, put_l hd, by omega, ?_⟩
          have k2 : Kp (Mdc d c) H (upd H' d (.dK (srcD c (l / most) m t))) := k1.trans fun b o e n => by rw [upd_ne (fun z => n (Or.inl z))]; exact e
          refine k _ _ (Int.emod_nonneg _ (by omega)) (Or.inl (Int.emod_lt_of_pos _ (by omega))) k2 ⟨cs, l / most, m, t, upd_same, by rw [upd_ne ndc.symm]; exact hc, hcs, hcl, Int.ediv_nonneg hl0 (by omega), hm0, hm1⟩
        · refine ⟨_, src_t hd, ?_⟩
          simp only [tSeq, tIfS, tNext, tRet, tRetN, tAsg, tDrop, tPar, tCons, tNil, tCB, tVar, tC, tOp, rI, rI0, rU, tTest, tB, tTup, tLst, gName, tIf, tAnd, tOr, tNot, tAndV, tOrV, tNotV, tUn, tCall, tChain, tSl, tNoPart, tPart, tBM, tBM0, tDGet, sDPut, rIxT, rIxL, rMulK, rLenK, rLstK, tTruK, gTup, gCons, gNil, rEq, rNe, scal, tNever, rMulK, rGcd, L2.start, List.map, List.length, List.replicate, List.cons_append, List.nil_append, List.append_nil, List.set, List.set_cons_zero, List.set_cons_succ, List.getElem?_cons_succ, List.getElem?_cons_zero, Option.some.injEq, List.cons.injEq, V.int.injEq, V.str.injEq, V.bl.injEq, V.ref.injEq, and_true, true_and, exists_eq_left, exists_eq_left', exists_eq_right, exists_eq_right', exists_eq, exists_and_left, exists_and_right, and_assoc, exists_false, false_and, and_false, or_false, false_or, reduceCtorEq, Nat.reduceAdd, Nat.reduceSub, List.append_assoc, eq_self, if_true, if_false, Bool.false_eq_true, decide_eq_true_eq, List.length_cons, List.length_nil]
          refine ⟨_, put_t hd, _, src_t upd_same, _, src_m upd_same, ?_⟩
          simp only [tSeq, tIfS, tNext, tRet, tRetN, tAsg, tDrop, tPar, tCons, tNil, tCB, tVar, tC, tOp, rI, rI0, rU, tTest, tB, tTup, tLst, gName, tIf, tAnd, tOr, tNot, tAndV, tOrV, tNotV, tUn, tCall, tChain, tSl, tNoPart, tPart, tBM, tBM0, tDGet, sDPut, rIxT, rIxL, rMulK, rLenK, rLstK, tTruK, gTup, gCons, gNil, rEq, rNe, scal, tNever, rMulK, rGcd, L2.start, List.map, List.length, List.replicate, List.cons_append, List.nil_append, List.append_nil, List.set, List.set_cons_zero, List.set_cons_succ, List.getElem?_cons_succ, List.getElem?_cons_zero, Option.some.injEq, List.cons.injEq, V.int.injEq, V.str.injEq, V.bl.injEq, V.ref.injEq, and_true, true_and, exists_eq_left, exists_eq_left', exists_eq_right, exists_eq_right', exists_eq, exists_and_left, exists_and_right, and_assoc, exists_false, false_and, and_false, or_false, false_or, reduceCtorEq, Nat.reduceAdd, Nat.reduceSub, List.append_assoc, eq_self, if_true, if_false, Bool.false_eq_true, decide_eq_true_eq, List.length_cons, List.length_nil]
          have b1 : 0 ≤ (m + t * 104729) % 998244353 := Int.emod_nonneg _ (by omega)
          have b2 : (m + t * 104729) % 998244353 < 998244353 := Int.emod_lt_of_pos _ (by omega)
          have b1' : 0 ≤ (m + (t + 1) * 104729) % 998244353 := Int.emod_nonneg _ (by omega)
          have b2' : (m + (t + 1) * 104729) % 998244353 < 998244353 := Int.emod_lt_of_pos _ (by omega)
          refine ⟨mulOk_r (by omega) (by omega), by omega, mulOk_r (by omega) (by omega), mulOk_r (by omega) (by omega), by omega, wide_div (b := 10) (by omega) (by decide) (by omega) (by omega), by omega, ?_⟩
          have k2 : Kp (Mdc d c) H (upd H' d (.dK (srcD c l m (t + 1)))) := k1.trans fun b o e n => by rw [upd_ne (fun z => n (Or.inl z))]; exact e
          refine k _ _ (Int.emod_nonneg _ (by omega)) (Or.inl (Int.emod_lt_of_pos _ (by omega))) k2 ⟨cs, l, m, t + 1, upd_same, by rw [upd_ne ndc.symm]; exact hc, hcs, hcl, hl0, hm0, hm1⟩
    · skip
      refine ⟨_, src_l hd, ?_⟩
      simp only [tSeq, tIfS, tNext, tRet, tRetN, tAsg, tDrop, tPar, tCons, tNil, tCB, tVar, tC, tOp, rI, rI0, rU, tTest, tB, tTup, tLst, gName, tIf, tAnd, tOr, tNot, tAndV, tOrV, tNotV, tUn, tCall, tChain, tSl, tNoPart, tPart, tBM, tBM0, tDGet, sDPut, rIxT, rIxL, rMulK, rLenK, rLstK, tTruK, gTup, gCons, gNil, rEq, rNe, scal, tNever, rMulK, rGcd, L2.start, List.map, List.length, List.replicate, List.cons_append, List.nil_append, List.append_nil, List.set, List.set_cons_zero, List.set_cons_succ, List.getElem?_cons_succ, List.getElem?_cons_zero, Option.some.injEq, List.cons.injEq, V.int.injEq, V.str.injEq, V.bl.injEq, V.ref.injEq, and_true, true_and, exists_eq_left, exists_eq_left', exists_eq_right, exists_eq_right', exists_eq, exists_and_left, exists_and_right, and_assoc, exists_false, false_and, and_false, or_false, false_or, reduceCtorEq, Nat.reduceAdd, Nat.reduceSub, List.append_assoc, eq_self, if_true, if_false, Bool.false_eq_true, decide_eq_true_eq, List.length_cons, List.length_nil]
      refine ite2 (fun g3 => ?_) (fun g3 => ?_)
      · refine ⟨wide_div (by omega) hm (by omega) (by omega), _, put_l hd, by omega, ?_⟩
        have k2 : Kp (Mdc d c) H (upd H' d (.dK (srcD c (l / most) m t))) := k1.trans fun b o e n => by rw [upd_ne (fun z => n (Or.inl z))]; exact e
        refine k _ _ (Int.emod_nonneg _ (by omega)) (Or.inl (Int.emod_lt_of_pos _ (by omega))) k2 ⟨cs, l / most, m, t, upd_same, by rw [upd_ne ndc.symm]; exact hc, hcs, hcl, Int.ediv_nonneg hl0 (by omega), hm0, hm1⟩
      · refine ⟨_, src_t hd, ?_⟩
        simp only [tSeq, tIfS, tNext, tRet, tRetN, tAsg, tDrop, tPar, tCons, tNil, tCB, tVar, tC, tOp, rI, rI0, rU, tTest, tB, tTup, tLst, gName, tIf, tAnd, tOr, tNot, tAndV, tOrV, tNotV, tUn, tCall, tChain, tSl, tNoPart, tPart, tBM, tBM0, tDGet, sDPut, rIxT, rIxL, rMulK, rLenK, rLstK, tTruK, gTup, gCons, gNil, rEq, rNe, scal, tNever, rMulK, rGcd, L2.start, List.map, List.length, List.replicate, List.cons_append, List.nil_append, List.append_nil, List.set, List.set_cons_zero, List.set_cons_succ, List.getElem?_cons_succ, List.getElem?_cons_zero, Option.some.injEq, List.cons.injEq, V.int.injEq, V.str.injEq, V.bl.injEq, V.ref.injEq, and_true, true_and, exists_eq_left, exists_eq_left', exists_eq_right, exists_eq_right', exists_eq, exists_and_left, exists_and_right, and_assoc, exists_false, false_and, and_false, or_false, false_or, reduceCtorEq, Nat.reduceAdd, Nat.reduceSub, List.append_assoc, eq_self, if_true, if_false, Bool.false_eq_true, decide_eq_true_eq, List.length_cons, List.length_nil]
        refine ⟨_, put_t hd, _, src_t upd_same, _, src_m upd_same, ?_⟩
        simp only [tSeq, tIfS, tNext, tRet, tRetN, tAsg, tDrop, tPar, tCons, tNil, tCB, tVar, tC, tOp, rI, rI0, rU, tTest, tB, tTup, tLst, gName, tIf, tAnd, tOr, tNot, tAndV, tOrV, tNotV, tUn, tCall, tChain, tSl, tNoPart, tPart, tBM, tBM0, tDGet, sDPut, rIxT, rIxL, rMulK, rLenK, rLstK, tTruK, gTup, gCons, gNil, rEq, rNe, scal, tNever, rMulK, rGcd, L2.start, List.map, List.length, List.replicate, List.cons_append, List.nil_append, List.append_nil, List.set, List.set_cons_zero, List.set_cons_succ, List.getElem?_cons_succ, List.getElem?_cons_zero, Option.some.injEq, List.cons.injEq, V.int.injEq, V.str.injEq, V.bl.injEq, V.ref.injEq, and_true, true_and, exists_eq_left, exists_eq_left', exists_eq_right, exists_eq_right', exists_eq, exists_and_left, exists_and_right, and_assoc, exists_false, false_and, and_false, or_false, false_or, reduceCtorEq, Nat.reduceAdd, Nat.reduceSub, List.append_assoc, eq_self, if_true, if_false, Bool.false_eq_true, decide_eq_true_eq, List.length_cons, List.length_nil]
        have b1 : 0 ≤ (m + t * 104729) % 998244353 := Int.emod_nonneg _ (by omega)
        have b2 : (m + t * 104729) % 998244353 < 998244353 := Int.emod_lt_of_pos _ (by omega)
        have b1' : 0 ≤ (m + (t + 1) * 104729) % 998244353 := Int.emod_nonneg _ (by omega)
        have b2' : (m + (t + 1) * 104729) % 998244353 < 998244353 := Int.emod_lt_of_pos _ (by omega)
        refine ⟨mulOk_r (by omega) (by omega), by omega, mulOk_r (by omega) (by omega), mulOk_r (by omega) (by omega), by omega, wide_div (b := 10) (by omega) (by decide) (by omega) (by omega), by omega, ?_⟩
        have k2 : Kp (Mdc d c) H (upd H' d (.dK (srcD c l m (t + 1)))) := k1.trans fun b o e n => by rw [upd_ne (fun z => n (Or.inl z))]; exact e
        refine k _ _ (Int.emod_nonneg _ (by omega)) (Or.inl (Int.emod_lt_of_pos _ (by omega))) k2 ⟨cs, l, m, t + 1, upd_same, by rw [upd_ne ndc.symm]; exact hc, hcs, hcl, hl0, hm0, hm1⟩
end
end G
set_option Elab.async false
set_option linter.all false
set_option maxRecDepth 100000
namespace G
open PySem L2
theorem gcd_step {a b : Int} (ha : 0 ≤ a) (hb : 0 ≤ b) : Int.gcd b (a % b) = Int.gcd a b := by
  obtain ⟨m, rfl⟩ := Int.eq_ofNat_of_zero_le ha
  obtain ⟨n, rfl⟩ := Int.eq_ofNat_of_zero_le hb
  rw [Int.gcd_comm (m : Int)]
  show Nat.gcd n (m % n) = Nat.gcd n m
  rw [Nat.gcd_comm n, ← Nat.gcd_rec n m]
section
variable {P : Program} {w : World} {K : PySem.W.Frag} {mg : Str → Option Value} {base : Heap}

/-! ### _law_point -/
def sp__law_point (K : PySem.W.Frag) : Sp := fun vs H Q _ => ∃ p q : Int, vs = [.int p, .int q] ∧ 0 < q ∧ q.natAbs < 2 ^ 8000 ∧
  ∀ (v : V) (H' : Hp), Kp M0 H H' → Dp K H' v (ptD (normP p q)) → Q v H'
theorem ok__law_point (W : Ds K mg) : FnOk P w K mg base CX0 1 W.f__law_point W.fd__law_point P__law_point (sp__law_point K) := by
  refine W.D__law_point.F.ok sc__law_point (fun vs H Q E h => ?len) (fun cdv A outer s H vs Q E hr h => ?body)
  case len =>
    obtain ⟨p, q, rfl, _⟩ := h
    rfl
  case body =>
    obtain ⟨p, q, rfl, hq, hb, k⟩ := h
    have nd := sc__law_point.nd
    have hu := hu_of hr
    have hu64 := hr.units
    have hu65 := hu65_of hr
    refine ⟨_, (pss_cons (ps_par (i := 2) (j := 3) rfl nd rfl rfl (by decide) rfl rfl (pa_cons (pe_callB call_abs (by rfl) W.T.b_abs (by decide +kernel) (pa_cons (pv 0) pa_nil)) (pa_cons (pv 1) pa_nil)) (by rfl))
  (pss_cons (ps_while PassesOwn.never (pt_cmpR op_gt (pv 3) pe_int (nomark _))
     (pss_one (ps_par (i := 2) (j := 3) rfl nd rfl rfl (by decide) rfl rfl (pa_cons (pv 3) (pa_cons (pe_op op_mod (pe_callTy call_int1 (by rfl) W.T.b_int (by decide +kernel) (pa_cons (pv 2) pa_nil)) (pv 3)) pa_nil)) (by rfl))))
  (pss_one (ps_ret (pe_tup (pa_cons (pe_op op_fdivW (pv 0) (pv 2)) (pa_cons (pe_op op_fdivW (pv 1) (pv 2)) pa_nil))))))), ?_⟩
    simp only [tSeq, tIfS, tNext, tRet, tRetN, tAsg, tDrop, tPar, tCons, tNil, tCB, tVar, tC, tOp, rI, rI0, rU, tTest, tB, tTup, tLst, gName, tIf, tAnd, tOr, tNot, tAndV, tOrV, tNotV, tUn, tCall, tChain, tSl, tNoPart, tPart, tBM, tBM0, tDGet, sDPut, rIxT, rIxL, rMulK, rLenK, rLstK, tTruK, gTup, gCons, gNil, rEq, rNe, scal, tNever, rMulK, rGcd, L2.start, List.map, List.length, List.replicate, List.cons_append, List.nil_append, List.append_nil, List.set, List.set_cons_zero, List.set_cons_succ, List.getElem?_cons_succ, List.getElem?_cons_zero, Option.some.injEq, List.cons.injEq, V.int.injEq, V.str.injEq, V.bl.injEq, V.ref.injEq, and_true, true_and, exists_eq_left, exists_eq_left', exists_eq_right, exists_eq_right', exists_eq, exists_and_left, exists_and_right, and_assoc, exists_false, false_and, and_false, or_false, false_or, reduceCtorEq, Nat.reduceAdd, Nat.reduceSub, List.append_assoc, eq_self, if_true, if_false, Bool.false_eq_true, decide_eq_true_eq, List.length_cons, List.length_nil]
    refine while_at (fun σ H' => H' = H ∧ ∃ a b : Int, σ = [some (.int p), some (.int q), some (.int a), some (.int b)] ∧ 0 ≤ a ∧ 0 ≤ b ∧ Int.gcd a b = Int.gcd p q) (fun σ _ => match σ with | [_, _, _, some (.int b)] => b.toNat | _ => 0) ⟨rfl, _, q, rfl, ?_, by omega, ?_⟩ ?_
    · split <;> omega
    · split <;> simp
    · rintro σ H' ⟨rfl, a, b, rfl, ha, hb0, hg⟩
      simp only [tSeq, tIfS, tNext, tRet, tRetN, tAsg, tDrop, tPar, tCons, tNil, tCB, tVar, tC, tOp, rI, rI0, rU, tTest, tB, tTup, tLst, gName, tIf, tAnd, tOr, tNot, tAndV, tOrV, tNotV, tUn, tCall, tChain, tSl, tNoPart, tPart, tBM, tBM0, tDGet, sDPut, rIxT, rIxL, rMulK, rLenK, rLstK, tTruK, gTup, gCons, gNil, rEq, rNe, scal, tNever, rMulK, rGcd, L2.start, List.map, List.length, List.replicate, List.cons_append, List.nil_append, List.append_nil, List.set, List.set_cons_zero, List.set_cons_succ, List.getElem?_cons_succ, List.getElem?_cons_zero, Option.some.injEq, List.cons.injEq, V.int.injEq, V.str.injEq, V.bl.injEq, V.ref.injEq, and_true, true_and, exists_eq_left, exists_eq_left', exists_eq_right, exists_eq_right', exists_eq, exists_and_left, exists_and_right, and_assoc, exists_false, false_and, and_false, or_false, false_or, reduceCtorEq, Nat.reduceAdd, Nat.reduceSub, List.append_assoc, eq_self, if_true, if_false, Bool.false_eq_true, decide_eq_true_eq, List.length_cons, List.length_nil]
      have hgp := gcd_pos' (p := p) hq
      have hgl : Int.gcd p q ≤ q.natAbs := Int.gcd_le_natAbs_right p (by omega)
      refine ite2 (fun hc => ?_) (fun hc => ?_)
      · have h1 := Int.emod_nonneg a (show b ≠ 0 by omega)
        have h2 := Int.emod_lt_of_pos a hc
        refine ⟨_, fun _ _ h => h, by omega, rfl, ⟨b, a % b, rfl, hb0, h1, ?_⟩, ?_⟩
        · rw [← hg]; exact gcd_step ha hb0
        · show (a % b).toNat < b.toNat
          omega
      · have hb00 : b = 0 := by omega
        subst hb00
        have ha' : a = (Int.gcd p q : Int) := by
          rw [Int.gcd_zero_right] at hg
          omega
        have hw : CDivW p a := by
          rw [ha']
          exact wide_div hgp (b := 8000) (by rw [Int.natAbs_natCast]; omega) (by omega) (by omega)
        refine ⟨hw, hw, by decide, fun t ht => ?_⟩
        refine k _ _ (Kp.new ht) ?_
        rw [ha']
        exact pt_mk (Or.inl (Or.inl upd_same))

/-! ### comparing -/
def sp_lt (K : PySem.W.Frag) : Sp := fun vs H Q _ => ∃ (v u : V) (x y : Pt), vs = [v, u] ∧ Dp K H v (ptD x) ∧ Dp K H u (ptD y) ∧ Sz 4000 x ∧ Sz 4000 y ∧ Q (.bl (decide (ltP x y))) H
abbrev sp__law_less := sp_lt
abbrev sp_is_before := sp_lt
theorem ok__law_less (W : Ds K mg) : FnOk P w K mg base CX0 1 W.f__law_less W.fd__law_less P__law_less (sp__law_less K) := by
  refine W.D__law_less.F.ok sc__law_less (fun vs H Q E h => ?len) (fun cdv A outer s H vs Q E hr h => ?body)
  case len =>
    obtain ⟨v, u, x, y, rfl, _⟩ := h
    rfl
  case body =>
    obtain ⟨v, u, x, y, rfl, hx, hy, sx, sy, k⟩ := h
    obtain ⟨a, rfl, ha⟩ := pt_of hx
    obtain ⟨b, rfl, hb⟩ := pt_of hy
    have nd := sc__law_less.nd
    have hu := hu_of hr
    have hu64 := hr.units
    have hu65 := hu65_of hr
    refine ⟨_, (pss_one (ps_ret (pe_cmpR op_lt (pe_op op_mulK (pe_ix (k_ixT K) (pv 0) pe_int (fun _ _ => rfl)) (pe_ix (k_ixT K) (pv 1) pe_int (fun _ _ => rfl))) (pe_op op_mulK (pe_ix (k_ixT K) (pv 1) pe_int (fun _ _ => rfl)) (pe_ix (k_ixT K) (pv 0) pe_int (fun _ _ => rfl))) (nomark _)))), ?_⟩
    simp only [tSeq, tIfS, tNext, tRet, tRetN, tAsg, tDrop, tPar, tCons, tNil, tCB, tVar, tC, tOp, rI, rI0, rU, tTest, tB, tTup, tLst, gName, tIf, tAnd, tOr, tNot, tAndV, tOrV, tNotV, tUn, tCall, tChain, tSl, tNoPart, tPart, tBM, tBM0, tDGet, sDPut, rIxT, rIxL, rMulK, rLenK, rLstK, tTruK, gTup, gCons, gNil, rEq, rNe, scal, tNever, rMulK, rGcd, L2.start, List.map, List.length, List.replicate, List.cons_append, List.nil_append, List.append_nil, List.set, List.set_cons_zero, List.set_cons_succ, List.getElem?_cons_succ, List.getElem?_cons_zero, Option.some.injEq, List.cons.injEq, V.int.injEq, V.str.injEq, V.bl.injEq, V.ref.injEq, and_true, true_and, exists_eq_left, exists_eq_left', exists_eq_right, exists_eq_right', exists_eq, exists_and_left, exists_and_right, and_assoc, exists_false, false_and, and_false, or_false, false_or, reduceCtorEq, Nat.reduceAdd, Nat.reduceSub, List.append_assoc, eq_self, if_true, if_false, Bool.false_eq_true, decide_eq_true_eq, List.length_cons, List.length_nil]
    refine ⟨_, ha, _, rfl, _, hb, _, rfl, _, rfl, _, rfl, mulOk_w sx.1 sy.2 (by omega) (by omega) (by omega), _, hb, _, rfl, _, ha, _, rfl, _, rfl, _, rfl, mulOk_w sy.1 sx.2 (by omega) (by omega) (by omega), k⟩
theorem ok_is_before (W : Ds K mg) : FnOk P w K mg base CX0 1 W.f_is_before W.fd_is_before P_is_before (sp_is_before K) := by
  refine W.D_is_before.F.ok sc_is_before (fun vs H Q E h => ?len) (fun cdv A outer s H vs Q E hr h => ?body)
  case len =>
    obtain ⟨v, u, x, y, rfl, _⟩ := h
    rfl
  case body =>
    obtain ⟨v, u, x, y, rfl, hx, hy, sx, sy, k⟩ := h
    obtain ⟨a, rfl, ha⟩ := pt_of hx
    obtain ⟨b, rfl, hb⟩ := pt_of hy
    have nd := sc_is_before.nd
    have hu := hu_of hr
    have hu64 := hr.units
    have hu65 := hu65_of hr
    refine ⟨_, (pss_one (ps_ret (pe_cmpR op_lt (pe_op op_mulK (pe_ix (k_ixT K) (pv 0) pe_int (fun _ _ => rfl)) (pe_ix (k_ixT K) (pv 1) pe_int (fun _ _ => rfl))) (pe_op op_mulK (pe_ix (k_ixT K) (pv 1) pe_int (fun _ _ => rfl)) (pe_ix (k_ixT K) (pv 0) pe_int (fun _ _ => rfl))) (nomark _)))), ?_⟩
    simp only [tSeq, tIfS, tNext, tRet, tRetN, tAsg, tDrop, tPar, tCons, tNil, tCB, tVar, tC, tOp, rI, rI0, rU, tTest, tB, tTup, tLst, gName, tIf, tAnd, tOr, tNot, tAndV, tOrV, tNotV, tUn, tCall, tChain, tSl, tNoPart, tPart, tBM, tBM0, tDGet, sDPut, rIxT, rIxL, rMulK, rLenK, rLstK, tTruK, gTup, gCons, gNil, rEq, rNe, scal, tNever, rMulK, rGcd, L2.start, List.map, List.length, List.replicate, List.cons_append, List.nil_append, List.append_nil, List.set, List.set_cons_zero, List.set_cons_succ, List.getElem?_cons_succ, List.getElem?_cons_zero, Option.some.injEq, List.cons.injEq, V.int.injEq, V.str.injEq, V.bl.injEq, V.ref.injEq, and_true, true_and, exists_eq_left, exists_eq_left', exists_eq_right, exists_eq_right', exists_eq, exists_and_left, exists_and_right, and_assoc, exists_false, false_and, and_false, or_false, false_or, reduceCtorEq, Nat.reduceAdd, Nat.reduceSub, List.append_assoc, eq_self, if_true, if_false, Bool.false_eq_true, decide_eq_true_eq, List.length_cons, List.length_nil]
    refine ⟨_, ha, _, rfl, _, hb, _, rfl, _, rfl, _, rfl, mulOk_w sx.1 sy.2 (by omega) (by omega) (by omega), _, hb, _, rfl, _, ha, _, rfl, _, rfl, _, rfl, mulOk_w sy.1 sx.2 (by omega) (by omega) (by omega), k⟩

/-! ### _law_whole -/
def sp__law_whole (K : PySem.W.Frag) : Sp := fun vs H Q _ => ∃ (d c : Addr), vs = [.ref d] ∧ SrcAt H d c ∧ d ≠ c ∧
  ∀ (i : Int) (H' : Hp), i.natAbs < 2 ^ 101 → Kp (Mdc d c) H H' → SrcAt H' d c → Q (.int i) H'
theorem ok__law_whole (W : Ds K mg) : FnOk P w K mg base CX0 2 W.f__law_whole W.fd__law_whole P__law_whole (sp__law_whole K) := by
  refine W.D__law_whole.F.ok sc__law_whole (fun vs H Q E h => ?len) (fun cdv A outer s H vs Q E hr h => ?body)
  case len =>
    obtain ⟨d, c, rfl, _⟩ := h
    rfl
  case body =>
    obtain ⟨d, c, rfl, hS, ndc, k⟩ := h
    have nd := sc__law_whole.nd
    have hu := hu_of hr
    have hu64 := hr.units
    have hu65 := hu65_of hr
    refine ⟨_, (pss_cons (ps_set (i := 1) nd rfl (by first | exact Or.inl rfl | exact Or.inr rfl) (pe_call (ok__law_pick W) (hr.mono (by first | decide | omega)) rfl W.D__law_pick.g W.D__law_pick.F.kp W.D__law_pick.b .nil pass0 (pa_cons (pv 0) (pa_cons pe_int pa_nil))))
  (pss_cons (ps_set (i := 2) nd rfl (by first | exact Or.inl rfl | exact Or.inr rfl) (pe_call (ok__law_pick W) (hr.mono (by first | decide | omega)) rfl W.D__law_pick.g W.D__law_pick.F.kp W.D__law_pick.b .nil pass0 (pa_cons (pv 0) (pa_cons (pe_ix (k_ixL K) (pe_lst (pa_cons pe_int (pa_cons pe_int (pa_cons (pe_op op_pow pe_int pe_int) (pa_cons (pe_op op_pow pe_int pe_int) (pa_cons (pe_op op_pow pe_int pe_int) pa_nil)))))) (pv 1) (fun _ _ => rfl)) pa_nil))))
  (pss_cons (ps_set (i := 2) nd rfl (by first | exact Or.inl rfl | exact Or.inr rfl) (pe_ifExp (pt_cmpR op_eq (pv 1) pe_int (nomark _)) (pe_op op_add (pe_op op_mulK (pe_op op_pow pe_int pe_int) (pv 2)) (pe_call (ok__law_pick W) (hr.mono (by first | decide | omega)) rfl W.D__law_pick.g W.D__law_pick.F.kp W.D__law_pick.b .nil pass0 (pa_cons (pv 0) (pa_cons (pe_op op_pow pe_int pe_int) pa_nil)))) (pv 2)))
  (pss_one (ps_ret (pe_ifExp (pt_cmpR op_eq (pe_call (ok__law_pick W) (hr.mono (by first | decide | omega)) rfl W.D__law_pick.g W.D__law_pick.F.kp W.D__law_pick.b .nil pass0 (pa_cons (pv 0) (pa_cons pe_int pa_nil))) pe_int (nomark _)) (pv 2) (pe_op op_sub pe_int (pv 2)))))))), ?_⟩
    simp only [tSeq, tIfS, tNext, tRet, tRetN, tAsg, tDrop, tPar, tCons, tNil, tCB, tVar, tC, tOp, rI, rI0, rU, tTest, tB, tTup, tLst, gName, tIf, tAnd, tOr, tNot, tAndV, tOrV, tNotV, tUn, tCall, tChain, tSl, tNoPart, tPart, tBM, tBM0, tDGet, sDPut, rIxT, rIxL, rMulK, rLenK, rLstK, tTruK, gTup, gCons, gNil, rEq, rNe, scal, tNever, rMulK, rGcd, L2.start, List.map, List.length, List.replicate, List.cons_append, List.nil_append, List.append_nil, List.set, List.set_cons_zero, List.set_cons_succ, List.getElem?_cons_succ, List.getElem?_cons_zero, Option.some.injEq, List.cons.injEq, V.int.injEq, V.str.injEq, V.bl.injEq, V.ref.injEq, and_true, true_and, exists_eq_left, exists_eq_left', exists_eq_right, exists_eq_right', exists_eq, exists_and_left, exists_and_right, and_assoc, exists_false, false_and, and_false, or_false, false_or, reduceCtorEq, Nat.reduceAdd, Nat.reduceSub, List.append_assoc, eq_self, if_true, if_false, Bool.false_eq_true, decide_eq_true_eq, List.length_cons, List.length_nil]
    refine ⟨d, c, 5, rfl, hS, ndc, by decide, fun r H1 r0 r1 k1 hS1 => ?_⟩
    refine ⟨⟨by decide, by decide, by decide⟩, ⟨by decide, by decide, by decide⟩, ⟨by decide, by decide, by decide⟩, by decide, fun p hp => ?_⟩
    simp only [show (10 : Int) ^ Int.toNat 15 = 1000000000000000 from rfl, show (10 : Int) ^ Int.toNat 14 = 100000000000000 from rfl, show (10 : Int) ^ Int.toNat 6 = 1000000 from rfl]
    have kp := Kp.new (M := Mdc d c) (o := .lst [.int 4, .int 60, .int 1000000, .int 1000000000000000, .int 100000000000000]) hp
    have hS2 := hS1.new (o := .lst [.int 4, .int 60, .int 1000000, .int 1000000000000000, .int 100000000000000]) hp
    have at1 : ∃ m : Int, atI [V.int 4, V.int 60, V.int 1000000, V.int 1000000000000000, V.int 100000000000000] r = some (.int m) ∧ 0 ≤ m ∧ m ≤ 1000000000000000 := by
      rcases (by omega : r = 0 ∨ r = 1 ∨ r = 2 ∨ r = 3 ∨ r = 4) with rfl | rfl | rfl | rfl | rfl
      · exact ⟨4, rfl, by decide, by decide⟩
      · exact ⟨60, rfl, by decide, by decide⟩
      · exact ⟨1000000, rfl, by decide, by decide⟩
      · exact ⟨1000000000000000, rfl, by decide, by decide⟩
      · exact ⟨100000000000000, rfl, by decide, by decide⟩
    obtain ⟨m, em, m0, m1⟩ := at1
    refine ⟨_, r, rfl, sqL_mk upd_same, _, em, ?_⟩
    refine ⟨d, c, m, rfl, hS2, ndc, abs_mono (m := 60) (by omega) (by omega), fun r2 H2 r20 r21 k2 hS3 => ?_⟩
    have r2b : r2 < 1000000000000000 := by omega
    refine ⟨trivial, ?_⟩
    have ka := (k1.trans kp).trans k2
    refine ite2 (fun _ => ?_) (fun _ => ?_)
    · refine ⟨⟨by decide, by decide, by decide⟩, r2, rfl, mulOk_l (by omega) (by omega), ⟨by decide, by decide, by decide⟩, ?_⟩
      refine ⟨d, c, 1000000000000000, rfl, hS3, ndc, abs_mono (m := 60) (by omega) (by omega), fun r3 H3 r30 r31 k3 hS4 => ⟨r3, rfl, ?_⟩⟩
      have r3b : r3 < 1000000000000000 := by omega
      refine ⟨d, c, 2, rfl, hS4, ndc, by decide, fun r4 H4 r40 r41 k4 hS5 => ⟨rfl, ?_⟩⟩
      have kb := (ka.trans k3).trans k4
      have bound : (1000000000000000 * r2 + r3).natAbs < 2 ^ 101 := by omega
      refine ite2 (fun _ => k _ _ bound kb hS5) (fun _ => k _ _ (by omega) kb hS5)
    · refine ⟨d, c, 2, rfl, hS3, ndc, by decide, fun r4 H4 r40 r41 k4 hS5 => ⟨rfl, ?_⟩⟩
      have kb := ka.trans k4
      have bound : r2.natAbs < 2 ^ 101 := by omega
      simp only [tSeq, tIfS, tNext, tRet, tRetN, tAsg, tDrop, tPar, tCons, tNil, tCB, tVar, tC, tOp, rI, rI0, rU, tTest, tB, tTup, tLst, gName, tIf, tAnd, tOr, tNot, tAndV, tOrV, tNotV, tUn, tCall, tChain, tSl, tNoPart, tPart, tBM, tBM0, tDGet, sDPut, rIxT, rIxL, rMulK, rLenK, rLstK, tTruK, gTup, gCons, gNil, rEq, rNe, scal, tNever, rMulK, rGcd, L2.start, List.map, List.length, List.replicate, List.cons_append, List.nil_append, List.append_nil, List.set, List.set_cons_zero, List.set_cons_succ, List.getElem?_cons_succ, List.getElem?_cons_zero, Option.some.injEq, List.cons.injEq, V.int.injEq, V.str.injEq, V.bl.injEq, V.ref.injEq, and_true, true_and, exists_eq_left, exists_eq_left', exists_eq_right, exists_eq_right', exists_eq, exists_and_left, exists_and_right, and_assoc, exists_false, false_and, and_false, or_false, false_or, reduceCtorEq, Nat.reduceAdd, Nat.reduceSub, List.append_assoc, eq_self, if_true, if_false, Bool.false_eq_true, decide_eq_true_eq, List.length_cons, List.length_nil]
      refine ite2 (fun _ => k _ _ bound kb hS5) (fun _ => k _ _ (by omega) kb hS5)
/-! ### _law_is_pair -/
theorem kitOne_same (K : PySem.W.Frag) (n : String) : PySem.W.kitOne K (.type n) (.type n) = some true := by
  unfold PySem.W.kitOne
  rw [if_pos (by simp)]
theorem kit_int_bool (K : PySem.W.Frag) : PySem.W.kitOne K (.type "int") (.type "bool") = some false := by
  unfold PySem.W.kitOne
  rw [if_neg (by simp)]
  kernel_rfl
def sp__law_is_pair (K : PySem.W.Frag) : Sp := fun vs H Q _ => ∃ (v : V) (x : Pt), vs = [v] ∧ Dp K H v (ptD x) ∧ (∃ a, v = .ref a ∧ H a = some (.tup [.int x.1, .int x.2])) ∧ ∀ H', Kp M0 H H' → Q (.bl true) H'
theorem ok__law_is_pair (W : Ds K mg) : FnOk P w K mg base CX0 1 W.f__law_is_pair W.fd__law_is_pair P__law_is_pair (sp__law_is_pair K) := by
  refine W.D__law_is_pair.F.ok sc__law_is_pair (fun vs H Q E h => ?len) (fun cdv A outer s H vs Q E hr h => ?body)
  case len =>
    obtain ⟨v, x, rfl, _⟩ := h
    rfl
  case body =>
    obtain ⟨v, x, rfl, dx, ⟨a, rfl, ha⟩, k⟩ := h
    have nd := sc__law_is_pair.nd
    have hu := hu_of hr
    have hu64 := hr.units
    have hu65 := hu65_of hr
    refine ⟨_, (pss_cons (ps_if (PW.pt (pw_or (pt_not (pt_val (pe_callB (c_isi K) (by rfl) W.T.b_isinstance (by decide +kernel) (pa_cons (pv 0) (pa_cons (pe_bltn (v := .ty "tuple") (u := .type "tuple") (by rfl) W.T.b_tuple (by decide +kernel) (by rfl)) pa_nil))))) (pw_or1 (pt_cmpR op_ne (pe_callB (c_len K) (by rfl) W.T.b_len (by decide +kernel) (pa_cons (pv 0) pa_nil)) pe_int (nomark _)))))
     (pss_one (ps_ret pe_bl))
     pss_nil)
  (pss_one (ps_ret (pe_callB (c_all K rfl) (by rfl) W.T.b_all (by decide +kernel) (pa_cons (pe_lc (own := [("one", 1)]) rfl nd (i_tup K (pv 0)) (blkOk_by (N := N__law_is_pair) (sc := defScope s__law_is_pair) (by decide +kernel)) (fun _ _ _ _ _ => (pg_name (i := 1) nd rfl (by first | exact Or.inl rfl | exact Or.inr rfl))) (fun _ _ _ _ _ => pts_nil) (fun _ _ _ _ _ => (pe_and (pe_callB (c_isi K) (by rfl) W.T.b_isinstance (by decide +kernel) (pa_cons (pv 1) (pa_cons (pe_bltn (v := .ty "int") (u := .type "int") (by rfl) W.T.b_int (by decide +kernel) (by rfl)) pa_nil))) (pe_one (pe_not (pe_callB (c_isi K) (by rfl) W.T.b_isinstance (by decide +kernel) (pa_cons (pv 1) (pa_cons (pe_bltn (v := .ty "bool") (u := .type "bool") (by rfl) W.T.b_bool (by decide +kernel) (by rfl)) pa_nil)))))))) pa_nil))))), ?_⟩
    simp only [tSeq, tIfS, tNext, tRet, tRetN, tAsg, tDrop, tPar, tCons, tNil, tCB, tVar, tC, tOp, rI, rI0, rU, tTest, tB, tTup, tLst, gName, tIf, tAnd, tOr, tNot, tAndV, tOrV, tNotV, tUn, tCall, tChain, tSl, tNoPart, tPart, tBM, tBM0, tDGet, sDPut, rIxT, rIxL, rMulK, rLenK, rLstK, tTruK, gTup, gCons, gNil, rEq, rNe, scal, tNever, rMulK, rGcd, L2.start, List.map, List.length, List.replicate, List.cons_append, List.nil_append, List.append_nil, List.set, List.set_cons_zero, List.set_cons_succ, List.getElem?_cons_succ, List.getElem?_cons_zero, Option.some.injEq, List.cons.injEq, V.int.injEq, V.str.injEq, V.bl.injEq, V.ref.injEq, and_true, true_and, exists_eq_left, exists_eq_left', exists_eq_right, exists_eq_right', exists_eq, exists_and_left, exists_and_right, and_assoc, exists_false, false_and, and_false, or_false, false_or, reduceCtorEq, Nat.reduceAdd, Nat.reduceSub, List.append_assoc, eq_self, if_true, if_false, Bool.false_eq_true, decide_eq_true_eq, List.length_cons, List.length_nil]
    have ia := kitOne_same K "tuple"
    refine ⟨V.ref a, V.ty "tuple", .type "tuple", .type "tuple", true, rfl, .ty _, .base (.tup ha), ia, true, rfl, ?_⟩
    rw [if_neg (by simp)]
    refine ⟨_, Or.inr (sqT_mk ha), ?_⟩
    rw [if_neg (by simp)]
    refine tlcT ?_
    refine ⟨_, rfl, ?_⟩
    refine lcT (K := K) [.int x.1, .int x.2] (fun _ => true) (fun _ => .bool true) (by rw [sizeLine_eq]; show 2 < 16777216; decide) (sqT_mk ha) (.cons (.int _) (.cons (.int _) .nil)) rfl (fun _ _ _ => rfl) htt_yes (fun i dd v H' e _ hx k' Q' q' => ?_) fun b H' vs hb k' hb2 hvs => ?_
    · have iv : ∃ z, v = .int z := by
        have m := List.mem_of_getElem? e
        simp only [List.mem_cons, List.not_mem_nil, or_false] at m
        rcases m with rfl | rfl
        · cases hx; exact ⟨_, rfl⟩
        · cases hx; exact ⟨_, rfl⟩
      obtain ⟨z, rfl⟩ := iv
      simp only [tSeq, tIfS, tNext, tRet, tRetN, tAsg, tDrop, tPar, tCons, tNil, tCB, tVar, tC, tOp, rI, rI0, rU, tTest, tB, tTup, tLst, gName, tIf, tAnd, tOr, tNot, tAndV, tOrV, tNotV, tUn, tCall, tChain, tSl, tNoPart, tPart, tBM, tBM0, tDGet, sDPut, rIxT, rIxL, rMulK, rLenK, rLstK, tTruK, gTup, gCons, gNil, rEq, rNe, scal, tNever, rMulK, rGcd, L2.start, List.map, List.length, List.replicate, List.cons_append, List.nil_append, List.append_nil, List.set, List.set_cons_zero, List.set_cons_succ, List.getElem?_cons_succ, List.getElem?_cons_zero, Option.some.injEq, List.cons.injEq, V.int.injEq, V.str.injEq, V.bl.injEq, V.ref.injEq, and_true, true_and, exists_eq_left, exists_eq_left', exists_eq_right, exists_eq_right', exists_eq, exists_and_left, exists_and_right, and_assoc, exists_false, false_and, and_false, or_false, false_or, reduceCtorEq, Nat.reduceAdd, Nat.reduceSub, List.append_assoc, eq_self, if_true, if_false, Bool.false_eq_true, decide_eq_true_eq, List.length_cons, List.length_nil]
      refine ⟨V.int z, V.ty "int", .type "int", .type "int", true, rfl, .ty _, .base (.int z), kitOne_same K "int", true, rfl, ?_⟩
      rw [if_pos rfl]
      exact ⟨V.int z, V.ty "bool", .type "int", .type "bool", false, rfl, .ty _, .base (.int z), kit_int_bool K, false, rfl, q' _ _ (Kp.refl _) (.bl true)⟩
    · have hv := dps_bools (bs := [true, true]) hvs
      subst hv
      refine ⟨b, [true, true], rfl, sqL_mk hb2, ?_⟩
      exact k _ k'
end
end G
set_option Elab.async false
set_option linter.all false
set_option maxRecDepth 100000
set_option maxHeartbeats 2000000
/-! own errors whose __init__ begins with super().__init__(text) -/
namespace G
open PySem L2
open PySem.W (kxs_mw KxsFacts)
open NdefX

section
variable {prog : Program} {w : World} {A : Around} {E : Value → Shared → Prop} {h : Heap} {g : Array GenState} {d : Drawn} {t : Nat} {os : OsState}
variable {nm q : Str} {C N : Addr} {bs bm bmB : List Value} {hdct : Bool} {sn : List Str} {sub : List Value} {ab : Bool} {col : Option Bool} {dd : Option Addr} {k0 k1 k2 k3 k5 : Option Value} {B newId i : String}
/-- what super().__init__ names, called -/
theorem mw_call {u e t0 : Addr} {rest : List Value} {Q : Value → Shared → Prop} (FB : ExcBaseFacts B newId i bmB) (hC : h.get? C = some (excClassObj nm q C N bs bm hdct sn sub ab col dd k0 k1 k2 k3 k5 newId))
    (he : h.get? e = some (HandSPX.excO C t0)) (hu : h.get? u = some (kxs_mw i e)) (hz : rest.length ≤ sizeLine)
    (done : ∀ h' t1, (∀ b o, b ≠ e → h.get? b = some o → h'.get? b = some o) → h'.get? e = some (HandSPX.excO C t1) → Q .none ⟨h', g, d, t, os⟩) : wpAny (model prog w) A (call (.ref u) rest) Q E ⟨h, g, d, t, os⟩ := by
  apply wpAny_call; apply codeAny_of_tree
  change wpAny _ A.in1 (callAny (.ref u) { pos := rest, kw := [] }) _ _ _; simp only [callAny]
  apply wpAny_bind; refine wpAny_load hu (?_ : _)
  have e1 : (Value.type "method-wrapper" == Value.type "method" || Value.type "method-wrapper" == Value.type "builtin_function_or_method" || Value.type "method-wrapper" == Value.type "method-wrapper") = true := by decide
  simp only [kxs_mw, e1, if_true]
  refine W.KFB.if_so (by decide : _) (?_ : _)
  apply wpAny_bind; refine PySem.W.check_bound_init FB.toExcCallFacts hC he (rfl : _) (?_ : _)
  refine (wpAny_pure ?_ : _)
  refine And.intro (plainId_quiet FB.init.plain _) (codeAny_builtin FB.initEntry ?_)
  exact PySem.W.exc_init_tree (cls := .ref C) (t0 := t0) (dv := none) (c2 := .none) (c3 := .none) (b4 := .bool false) he hz fun h' k x _ => done h' _ k x
end
/-- what the written part says of a class whose __init__ says super().__init__ -/
structure SupC (K : PySem.W.Frag) (C : Addr) (B i : String) : Prop where
  sup : PySem.W.ks_superIn K C C "__init__" = some (some (.builtin i))
  sub : PySem.W.subIn K (.ref C) (.type B) = some true
  own : PySem.W.mroIn K C (.ref C) = some true
  opq : PySem.W.nsIn K PySem.cStatics "thirdparty.any" = some none
/-- .. and of the method f itself: its record, its code's file, its cell -/
structure IniF (P : Program) (K : PySem.W.Frag) (C f cda cc : Addr) (fd : FuncData) (me : Str) : Prop where
  look : ∃ (oc : Value) (od : Option Addr) (osl : Array (Option Value)), K.lookup f = some ⟨oc, od, .func fd, osl⟩
  head : ∃ ar : Arg, (fd.params.posonlyargs ++ fd.params.args).head? = some ar ∧ ar.arg = me
  code : ∃ (ccl : Value) (cdd : Option Addr) (vs : Array Value) (ccs : Array (Option Value)) (file : Str) (tf : Tok), K.lookup cda = some ⟨ccl, cdd, .fields vs, ccs⟩ ∧ vs[2]? = some (.str file tf) ∧ ((P.main.file : Str) == file) = true
  cell : ∃ (cl : Value) (cld : Option Addr) (csl : Array (Option Value)), K.lookup cc = some ⟨cl, cld, .cell (some (.ref C)), csl⟩
  top : (P.main.scope.names.lookup ("super" : Str)).isSome = false
section
variable {X : Cx} {pins : List (Addr × Obj)} {σ : L2.St} {H : Hp} {s : Shared}
theorem super_init {C f cda cc a : Addr} {fd : FuncData} {self msg : Str} {kk : Nat} {p0 p1 p2 p3 p4 : Pos} {body : List Stmt} (I : Inv X [] σ H s) (T : OexC X.K C) (S : SupC X.K C "ValueError" "ValueError.__init__") (M : IniF X.prog X.K C f cda cc fd self)
    (hks : X.env.kindOf "super" = some .globalImplicit) (hms : X.mg "super" = none) (hkc : X.env.kindOf "__class__" = some .free) (hcl : X.env.cells.lookup ("__class__" : Str) = some cc) (hfu : X.env.func = some f) (hco : X.env.code = .ref cda)
    (hka : X.env.kindOf self = some .local) (hN : X.N[0]? = some self) (hσ : σ[0]? = some (some (.ref a))) (ha : H a = some (exo a C none)) {pl : Sem Bool}
    (he : eval (.Call (.Attribute (.Call (.Name "super" p0) [] [] p1) "__init__" p2) [.Constant (.str msg) kk p3] [] p4) X.env = (do
      let ov ← attributeBase (.Call (.Name "super" p0) [] [] p1) "__init__" X.env (eval (.Call (.Name "super" p0) [] [] p1) X.env)
      standAt p2.atName
      let (f, first) ← holding [ov] (getMethod ov "__init__" pl)
      callWith p4 f first (backTo p4 (starEach [.Constant (.str msg) kk p3] X.env)) []))
    {Q : Value → Shared → Prop} (q : ∀ s', Inv X [] σ H s' → Q .none s') :
    PySem.wpAt (model X.prog X.w) X.A (.func body X.env) (eval (.Call (.Attribute (.Call (.Name "super" p0) [] [] p1) "__init__" p2) [.Constant (.str msg) kk p3] [] p4) X.env) Q X.xe s := by
  obtain ⟨oc, od, osl, lf⟩ := M.look
  obtain ⟨ar, hhead, rfl⟩ := M.head
  obtain ⟨ccl, cdd, vs, ccs, file, tf, lcode, hvs, hfile⟩ := M.code
  obtain ⟨cl, cld, csl, lcell⟩ := M.cell
  obtain ⟨nm, qn, N, bs, bm, sn, sub, ab, col, dd, k0, k1, k2, k3, k5, hC, hbm⟩ := T.cls
  have hcd : PySem.W.clsIn X.K C = some { name := nm, bases := bs, mro := .ref C :: bm, ns := N, qualname := qn, hasDict := true, slotNames := sn, subclasses := sub, abstract := ab, collection := col, hasDel := false } := by unfold PySem.W.clsIn; rw [hC] <;> rfl
  have XK := I.kIn
  obtain ⟨m, hns, hl⟩ := I.loc
  obtain ⟨u, ru, lk⟩ := hl 0 ar.arg (.ref a) hN hσ (Or.inl hka)
  obtain rfl : u = Value.ref a := ru
  have hm : m ar.arg = some (.ref a) := by
    rcases lk with ⟨_, z⟩ | ⟨hk, _⟩
    · exact z
    · rcases hk with hk | hk <;> (rw [hka] at hk; cases hk)
  obtain ⟨t1, hox⟩ := exo_at I.hok ha
  have inst : PySem.W.InstAt s.heap a { cls := .ref C, dict := none, data := .fields #[.ref t1, .none, .none, .none, .bool false, .none] } C none := ⟨hox, rfl, rfl, trivial⟩
  have ne := PySem.W.ks_ne XK inst hcd
  obtain ⟨mb, b1, b2⟩ := I.mod.blt
  refine ks_wpAt_MethodCall (he := he) ?_
  refine ks_wpAt_super_base hks hkc (by decide) hfu (XK _ _ lf) rfl hhead hco (XK _ _ lcode) rfl hvs hfile M.top ?_
  refine PySem.W.ks_loadName_global I.ok.kind hks (Calls.loadGlobal_builtin (by rw [I.ok.glob]; exact I.mod.glob.keeps I.bk) hms (by rw [I.ok.blt]; exact b1.keeps I.bk) ((b2 _ (by decide)).trans (by decide +kernel : bootBuiltins "super" = some (.type "super"))) ⟨rfl, ?_⟩)
  refine wpAny_loadName_free I.ok.kind hkc hcl ⟨_, XK _ _ lcell, rfl⟩ ?_
  refine wpAny_loadName_local I.ok.kind hka hns hm ?_
  have hD2 : ∃ oD, s.heap.get? C = some oD ∧ ∃ cd, oD.data = .cls cd := ⟨_, XK _ _ hC, _, rfl⟩
  obtain ⟨oD, e1, cdD, e2⟩ := hD2
  obtain ⟨hp, gg, dr, tk, os⟩ := s
  refine ks_wpAny_isType_cls e1 e2 ⟨rfl, ?_⟩
  refine ks_wpAny_call_super e1 e2 hox rfl (fun c z => by cases z) (PySem.W.looks_mroIn XK S.own) (fun h1 hso k1 => ?_)
  have I1 : Inv X [] σ H ⟨h1, gg, dr, tk, os⟩ := I.kept (t' := tk) k1
  have X1 := I1.kIn
  have inst1 : PySem.W.InstAt h1 a { cls := .ref C, dict := none, data := .fields #[.ref t1, .none, .none, .none, .bool false, .none] } C none := ⟨k1 _ _ hox, rfl, rfl, trivial⟩
  have hsup := S.sup
  unfold PySem.W.ks_superIn at hsup
  rw [hcd] at hsup
  refine PySem.W.kxs_getMethod PySem.W.kxs_ValueError hso (PySem.W.looks_opaque X1 S.opq) (l₀ := .ref C :: bm) (fun A Q E s k q => wpAny_bind ((PySem.W.looks_clsIn X1 hcd) A _ E s k (wpAny_pure q))) rfl X1 hsup (inst1.type.andThen (PySem.W.looks_subIn X1 S.sub)) ne (by decide) ?_
  have I2 : Inv X [] σ H ⟨h1.push (kxs_mw "ValueError.__init__" a), gg, dr, tk + 1, os⟩ := I1.kept (t' := tk + 1) fun b o e => Heap.get?_push_of_some _ e
  have I3 : Inv X [(h1.objs.size, kxs_mw "ValueError.__init__" a)] σ H ⟨h1.push (kxs_mw "ValueError.__init__" a), gg, dr, tk + 1, os⟩ := I2.pins_of fun p hp => by
    rw [List.mem_singleton] at hp
    subst hp
    exact ⟨Heap.get?_push_at rfl rfl, I1.hok.fresh (Nat.le_refl _), Nat.ne_of_gt I1.lt, I1.nofs (Nat.le_refl _), fun v z => by cases z⟩
  show wpAny _ _ (callWith p4 (.ref h1.objs.size) [] (backTo p4 (starEach [.Constant (.str msg) kk p3] X.env)) []) _ _ _
  have args : PA X [.Constant (.str msg) kk p3] (tCons (tC (.str msg)) tNil) := pa_cons pe_str pa_nil
  refine PySem.W.kxs_callWith (i := "ValueError.__init__") (x := a) (u := h1.objs.size) rfl (Calls.evalArgs_plain (thn (args.run p4 _ _ σ H (fun vs H' => vs = [.str msg] ∧ H' = H) I3 ⟨rfl, rfl⟩) fun us s1 ⟨vs, H4, I4, r4, e4⟩ => ?_))
  obtain ⟨rfl, rfl⟩ := e4
  have hu4 := (I4.pin _ (List.mem_append_right _ (List.mem_singleton_self _))).1
  refine ⟨hu4, ?_⟩
  obtain ⟨t4, ho4⟩ := exo_at I4.hok ha
  obtain ⟨hp4, g4, d4, k4, o4⟩ := s1
  have hz : us.length ≤ sizeLine := by rw [← Paired.length r4, sizeLine_eq]; show 1 ≤ 16777216; decide
  refine mw_call F.excBase_ValueError (I4.kIn _ _ hC) ho4 hu4 hz fun h' t5 kk5 x5 => ?_
  have I5 : Inv X [] σ H4 ⟨hp4, g4, d4, k4, o4⟩ := I4.pins_of fun p hp => by cases hp
  have J := I5.write (t' := k4) (x := a) (e := a) (o := exo a C none) (by rw [ha]; exact True.intro) (.inl rfl) kk5 ⟨_, x5⟩ (exo_ok x5)
  have eu : upd H4 a (exo a C none) = H4 := by
    funext b
    by_cases hb : b = a
    · rw [hb, upd_same, ha]
    · rw [upd_ne hb]
  rw [eu] at J
  exact q _ J
end
/-! ### such a method's promise -/
section
variable {P : Program} {w : World} {K : PySem.W.Frag} {mg : Str → Option Value} {base : Heap} {CX : CXT} {N ps : List Str} {me : Str} {k : Nat} {sp : Sp}
/-- the method of the class C at f, of these words -/
structure Ini (P : Program) (K : PySem.W.Frag) (C f cc : Addr) (F : NF) (fd : FuncData) (me : Str) : Prop where
  fds : ∃ kV doc pm ct an, fd = PySem.W.fnX F.name F.qual F.params F.body F.scope F.cl .none kV doc pm an (.ref F.c) ct
  cl : F.cl = [(("__class__" : Str), cc)]
  code : PySem.W.codeIn K (.ref F.c) F.qual = true
  m : IniF P K C f F.c cc fd me
theorem ini_ok {C f cc : Addr} {F : NF} {fd : FuncData} {msg : Str} {kk : Nat} {p0 p1 p2 p3 p4 p5 : Pos} {rest : List Stmt} (M : Ini P K C f cc F fd me) (S : NScope N (me :: ps) ["__class__"] F.scope) (T : OexC K C) (SC : SupC K C "ValueError" "ValueError.__init__")
    (hbody : F.body = .Expr (.Call (.Attribute (.Call (.Name "super" p0) [] [] p1) "__init__" p2) [.Constant (.str msg) kk p3] [] p4) p5 :: rest) (hs : F.scope.names.lookup ("super" : Str) = some .globalImplicit) (hms : mg "super" = none)
    (len : ∀ vs H Q E, sp vs H Q E → vs.length = (me :: ps).length)
    (hpl : ∀ L : Addr, (∃ pl : Sem Bool, eval (.Call (.Attribute (.Call (.Name "super" p0) [] [] p1) "__init__" p2) [.Constant (.str msg) kk p3] [] p4) (envF F f L) = (do
      let ov ← attributeBase (.Call (.Name "super" p0) [] [] p1) "__init__" (envF F f L) (eval (.Call (.Name "super" p0) [] [] p1) (envF F f L))
      standAt p2.atName
      let (f1, first) ← holding [ov] (getMethod ov "__init__" pl)
      callWith p4 f1 first (backTo p4 (starEach [.Constant (.str msg) kk p3] (envF F f L))) [])) ∧ interactive (envF F f L) = false ∧
      swapsWith (.Call (.Attribute (.Call (.Name "super" p0) [] [] p1) "__init__" p2) [.Constant (.str msg) kk p3] [] p4) none p5.line (envF F f L) = pure false)
    (hq : ∀ (A : Around) (outer : List Env) (s : Shared) (H : Hp) (vs : List V) (Q : VK) (E : XK), Room k (A.deeper (envF F f s.heap.objs.size)) → sp vs H Q E →
      (∃ a vr, vs = .ref a :: vr ∧ H a = some (exo a C none)) ∧ ∃ t, PSs (ncx CX P w K mg base N F f A outer s H E) rest t ∧ t { nx := fun _ H' => Q .non H', rt := Q } (startF N vs [none]) H) :
    FnOk P w K mg base CX (k + 1) f fd (me :: ps) sp := by
  refine ⟨len, fun A outer s H args us vs Q E hr e0 bind r hsp => ?_⟩
  obtain ⟨kV, doc, pm, ct, an, rfl⟩ := M.fds
  obtain ⟨oc, od, osl, look⟩ := M.m.look
  have up : ∀ b o, base.get? b = some o → s.heap.get? b = some o := fun b o e => (e0.bs b o e).1
  have KX : K.In s.heap := e0.mod.kin.keeps up
  have hl := len _ _ _ _ hsp
  obtain ⟨cl, cld, csl, lcell⟩ := M.m.cell
  have hcc := e0.bs _ _ (e0.mod.kin _ _ lcell)
  have cell1 : ∀ y c, F.cl.lookup y = some c → c = cc ∧ y = "__class__" := fun y c e => by
    rw [M.cl] at e
    by_cases z : y = ("__class__" : Str)
    · subst z
      simp [List.lookup] at e
      exact ⟨e.symm, rfl⟩
    · have z' : (y == ("__class__" : Str)) = false := by simpa using z
      simp [List.lookup, z'] at e
  have cell2 : F.cl.lookup ("__class__" : Str) = some cc := by rw [M.cl]; simp [List.lookup]
  have cells : CellsAt F.cl ["__class__"] [none] s.heap H := {
    len := rfl
    all := fun y c e => by
      obtain ⟨rfl, _⟩ := cell1 y c e
      exact ⟨hcc.2, _, _, hcc.1, rfl⟩
    inj := fun x y c e1 e2 => (cell1 x c e1).2.trans (cell1 y c e2).2.symm
    has := fun i y hi => by
      cases i with
      | zero =>
        simp at hi
        subst hi
        exact ⟨cc, cell2, fun v z => by simp at z⟩
      | succ i => simp at hi }
  refine ks_codeAny_call_defAt (body := F.body) hr.depth (KX _ _ look) rfl (e0.mod.nolimit.keeps up) (PySem.W.codeRec_of KX M.code) rfl bind S.nocell (fun y hy => S.par y.1 (List.of_mem_zip hy).1) (fun h₁ hns kp => ?_) S.co S.gen S.kind
  obtain ⟨⟨a, vr, rfl, ha⟩, t, ht, want⟩ := hq A outer s H vs Q E (hr.deeper _) hsp
  have I : Inv (ncx CX P w K mg base N F f A outer s H E) [] (startF N (.ref a :: vr) [none]) H { s with heap := h₁, toks := s.toks + ((me :: ps).zip us).length } := inv_startN S hr.hd e0 hl r cells hns kp
  have hN0 : N[0]? = some me := by
    have q := congrArg (fun l => l[0]?) S.pre
    simp only [List.length_cons] at q
    rw [List.getElem?_take_of_lt (by omega)] at q
    simpa using q
  rw [hbody]
  obtain ⟨⟨pl, he⟩, hin, hsw⟩ := hpl s.heap.objs.size
  have step := super_init (X := ncx CX P w K mg base N F f A outer s H E) (body := F.body) (pl := pl) (p0 := p0) (p1 := p1) (p2 := p2) (p3 := p3) (p4 := p4) (msg := msg) (kk := kk) I T SC M.m hs hms (S.frk _ (by simp)) cell2 rfl rfl (S.par _ (by simp)) hN0 rfl ha he
    (Q := fun _ s' => Inv (ncx CX P w K mg base N F f A outer s H E) [] (startF N (.ref a :: vr) [none]) H s') fun s' J => J
  rw [hbody] at step
  refine ks_wpAt_execs_cons (ks_wpAt_Expr_any (ks_wpAt_mono step (fun v s' J => ?_) fun e s' z => z) hin hsw)
  refine wpAt_of_wpAny (wpAny_mono (ht.run [] _ _ H _ J want) (fun fl s2 z => ?_) fun e s2 z => z)
  have fin : ∀ {σ' : L2.St} {H' : Hp} {v : V} {u : Value}, Inv (ncx CX P w K mg base N F f A outer s H E) [] σ' H' s2 → RelV v u → Q v H' → CE outer P w H s Q u s2 := fun {σ' H' v u} J rv q => ⟨v, H', J.os, J.bare, J.base, J.hok, rv, q⟩
  cases fl with
  | ret u =>
    obtain ⟨v, σ', H', J, rv, q⟩ := z
    exact fin J rv q
  | next =>
    obtain ⟨σ', H', J, q⟩ := z
    exact fin (v := V.non) (u := Value.none) J rfl q
  | brk =>
    obtain ⟨_, _, _, q⟩ := z
    exact False.elim q
  | cont =>
    obtain ⟨_, _, _, q⟩ := z
    exact False.elim q
end
end G
set_option Elab.async false
set_option linter.all false
set_option maxRecDepth 100000
set_option maxHeartbeats 2000000
/-! own errors in the line of any built-in one, as values -/
namespace G
open PySem L2
open PySem.W (kxs_mw KxsFacts)
open NdefX
/-- what the written part says of a class of own errors -/
structure OxC (K : PySem.W.Frag) (C : Addr) (bmB : List Value) (newId : String) : Prop where
  cls : ∃ nm q N bs bm sn sub ab col dd k0 k1 k2 k3 k5, K.lookup C = some (excClassObj nm q C N bs bm true sn sub ab col dd k0 k1 k2 k3 k5 newId) ∧ PySem.W.excTail bmB bm = true
  sa : PySem.W.findIn K (.ref C) "__setattr__" = some (some (.builtin "object.__setattr__"))
  kC : PySem.W.keepIn K (.ref C) = true
theorem OxC.over {K : PySem.W.Frag} {C : Addr} {bmB : List Value} {newId : String} (T : OxC K C bmB newId) : PySem.W.excOver K C bmB = true := by
  obtain ⟨nm, q, N, bs, bm, sn, sub, ab, col, dd, k0, k1, k2, k3, k5, hC, hbm⟩ := T.cls
  have hcl : PySem.W.clsIn K C = some { name := nm, bases := bs, mro := .ref C :: bm, ns := N, qualname := q, hasDict := true, slotNames := sn, subclasses := sub, abstract := ab, collection := col, hasDel := false } := by unfold PySem.W.clsIn; rw [hC] <;> rfl
  unfold PySem.W.excOver
  rw [hcl]
  simp [hbm]
section
variable {prog : Program} {w : World} {A : Around} {R : Result → Shared → Prop} {hp : Heap} {g : Array GenState} {d : Drawn} {t : Nat} {os : OsState}
theorem osG_new {K : PySem.W.Frag} {name : Str} {tk : Tok} {v : Value} {x C t1 : Addr} {bmB : List Value} {newId B : String} (SF : StoreFacts B bmB "object.__setattr__" "object") (T : OxC K C bmB newId) (X : K.In hp)
    (hx : hp.get? x = some (HandSPX.excO C t1)) (ha : PySem.W.findIn K (.ref C) name = some none)
    (done : ∀ h' tk' dx, (∀ b o, b ≠ x → hp.get? b = some o → h'.get? b = some o) → hp.objs.size ≤ dx → dx ≠ x → h'.get? x = some ({ cls := .ref C, dict := some dx, data := .fields #[.ref t1, .none, .none, .none, .bool false, .none] } : Obj) →
      h'.Ns1 dx (fun y => if y = name then some v else none) → R (.ok (.ret .none)) ⟨h', g, d, tk', os⟩) :
    codeAny (model prog w) A (.call (.builtin "object.__setattr__") ⟨[.ref x, .str name tk, v], []⟩) R ⟨hp, g, d, t, os⟩ := by
  have ht : PySem.W.takerIn K C name = some none := by unfold PySem.W.takerIn; rw [ha]; rfl
  refine PySem.W.osa_openX (od := none) SF X (⟨hx, rfl, rfl, trivial⟩ : PySem.W.InstAt hp x (HandSPX.excO C t1) C none) T.over ht fun b => ?_
  obtain ⟨nm, q, N, bs, bm, sn, sub, ab, col, dd, k0, k1, k2, k3, k5, hC, hbm⟩ := T.cls
  have hcl : PySem.W.clsIn K C = some { name := nm, bases := bs, mro := .ref C :: bm, ns := N, qualname := q, hasDict := true, slotNames := sn, subclasses := sub, abstract := ab, collection := col, hasDel := false } := by unfold PySem.W.clsIn; rw [hC] <;> rfl
  have kc : PySem.W.Looks (model prog w) hp (classData C) _ := PySem.W.looks_clsIn X hcl
  have xs : x ≠ hp.objs.size := Nat.ne_of_lt (Heap.lt_size hx)
  show wpAny _ _ (Builtin.ObjectAttr.storeInOwnDict (.ref x) (.ref C) (.str name tk) name v b) _ _ _
  unfold Builtin.ObjectAttr.storeInOwnDict Builtin.ObjectAttr.ownDictForStores
  repeat (first | (with_reducible refine HandSPX.store_in_new ?_ ?_) | (with_reducible refine wpAny_loadPart_at hx ?_) | (with_reducible refine PySem.W.Looks.at kc ?_) | wp_step)
  · refine ⟨_, #[], _, (Heap.get?_update_ne _ _ _ _ (Ne.symm xs)).trans (Heap.get?_push_at rfl rfl), rfl, fun e z => ?_, fun _ => rfl⟩
    simp at z
  · intro h1 tk1 n1 s1
    have x1 : (hp.push { cls := .type "dict", data := .dict #[] }).get? x = some (HandSPX.excO C t1) := Heap.get?_push_of_some _ hx
    have old : ∀ b o, b ≠ x → hp.get? b = some o → h1.get? b = some o := fun b o nb z => (s1.2 b (Nat.ne_of_lt (Heap.lt_size z))).trans ((Heap.get?_update_ne _ _ _ _ nb).trans (Heap.get?_push_of_some _ z))
    exact done h1 tk1 hp.objs.size old (Nat.le_refl _) (Ne.symm xs) ((s1.2 x xs).trans (Heap.get?_update_self _ x1 rfl)) n1
theorem osG_old {K : PySem.W.Frag} {name : Str} {tk : Tok} {v : Value} {x C t1 dx : Addr} {bmB : List Value} {newId B : String} {m0 : Str → Option Value} {nl : List Str} (SF : StoreFacts B bmB "object.__setattr__" "object") (T : OxC K C bmB newId) (X : K.In hp)
    (hx : hp.get? x = some ({ cls := .ref C, dict := some dx, data := .fields #[.ref t1, .none, .none, .none, .bool false, .none] } : Obj)) (hns : hp.Ns1 dx m0) (hw : Within m0 nl) (hz : nl.length ≤ 1000) (ha : PySem.W.findIn K (.ref C) name = some none)
    (done : ∀ h' tk', (∀ b o, b ≠ dx → hp.get? b = some o → h'.get? b = some o) → h'.Ns1 dx (fun y => if y = name then some v else m0 y) → R (.ok (.ret .none)) ⟨h', g, d, tk', os⟩) :
    codeAny (model prog w) A (.call (.builtin "object.__setattr__") ⟨[.ref x, .str name tk, v], []⟩) R ⟨hp, g, d, t, os⟩ := by
  have ht : PySem.W.takerIn K C name = some none := by unfold PySem.W.takerIn; rw [ha]; rfl
  obtain ⟨oD, _, _, hoD, _, _⟩ := hns.count hw
  refine PySem.W.osa_openX (od := some oD) SF X (⟨hx, rfl, rfl, hoD⟩ : PySem.W.InstAt hp x ({ cls := .ref C, dict := some dx, data := .fields #[.ref t1, .none, .none, .none, .bool false, .none] } : Obj) C (some oD)) T.over ht fun b => ?_
  obtain ⟨nm, q, N, bs, bm, sn, sub, ab, col, dd, k0, k1, k2, k3, k5, hC, hbm⟩ := T.cls
  have hcl : PySem.W.clsIn K C = some { name := nm, bases := bs, mro := .ref C :: bm, ns := N, qualname := q, hasDict := true, slotNames := sn, subclasses := sub, abstract := ab, collection := col, hasDel := false } := by unfold PySem.W.clsIn; rw [hC] <;> rfl
  have kc : PySem.W.Looks (model prog w) hp (classData C) _ := PySem.W.looks_clsIn X hcl
  show wpAny _ _ (Builtin.ObjectAttr.storeInOwnDict (.ref x) (.ref C) (.str name tk) name v b) _ _ _
  unfold Builtin.ObjectAttr.storeInOwnDict Builtin.ObjectAttr.ownDictForStores
  repeat (first | (with_reducible refine OEX.store_in_old hns hw hz ?_) | (with_reducible refine wpAny_loadPart_at hx ?_) | (with_reducible refine PySem.W.Looks.at kc ?_) | wp_step)
  intro h1 tk1 n1 s1
  exact done h1 tk1 (fun b o nb z => (s1.2 b nb).trans z) n1
end
/-! ### in the layer -/
section
variable {X : Cx} {pins : List (Addr × Obj)} {σ : L2.St} {H : Hp} {s : Shared} {a C dx : Addr} {f : Str} {y : V} {u : Value} {fs : List (Str × V)} {Q : Unit → Shared → Prop} {E : Value → Shared → Prop} {A : Around} {bmB : List Value} {newId B : String}
theorem stG_new (SF : StoreFacts B bmB "object.__setattr__" "object") (T : OxC X.K C bmB newId) (I : Inv X pins σ H s) (e : H a = some (exo a C none)) (hno : PySem.W.findIn X.K (.ref C) f = some none) (ry : RelV y u)
    (h : ∀ dx s', H dx = none → dx ≠ a → Inv X pins σ (upd (upd H dx (exd dx [(f, y)])) a (exo a C (some dx))) s' → Q () s') : wpAny (model X.prog X.w) A (setAttr (.ref a) f u) Q E s := by
  obtain ⟨t1, ho⟩ := exo_at I.hok e
  obtain ⟨hp, g, d, t, os⟩ := s
  refine PySem.W.set_plain I.kIn (ox := HandSPX.excO C t1) (od := none) ⟨ho, rfl, rfl, trivial⟩ T.sa ?_
  refine osG_new SF T I.kIn ho hno fun h' tk' dx k dn dne hx hn => ?_
  have hnd : H dx = none := I.hok.fresh dn
  have nd : ∀ {b : Addr} {o : Obj}, hp.get? b = some o → b ≠ dx := fun {b o} q => Nat.ne_of_lt (Nat.lt_of_lt_of_le (Heap.lt_size q) dn)
  have na : ∀ {b : Addr}, H b = none → b ≠ a := fun {b} n z => by rw [z, e] at n; cases n
  have U : Un X.fs [] H (upd (upd H dx (exd dx [(f, y)])) a (exo a C (some dx))) hp h' := {
    keep := fun b o q n _ _ => k b o (na n) q
    slot := fun b o q n _ _ => ⟨o.slots, k b o (na n) q⟩
    free := fun b o q n _ => (upd_ne (na n)).trans ((upd_ne (nd q)).trans n)
    there := fun b o q _ => by
      by_cases hb : b = a
      · subst hb; exact ⟨_, hx⟩
      · exact ⟨o, k b o hb q⟩
    tups := fun b xs q => (upd_ne (at_ne e q exo_tup)).trans ((upd_ne (ne_of_none q hnd)).trans q)
    frzs := fun b o v q => (upd_ne (at_ne e q exo_frz)).trans ((upd_ne (ne_of_none q hnd)).trans q)
    tbls := fun b ps q => ⟨#[], by rw [upd_ne (at_ne e q exo_tbl), upd_ne (ne_of_none q hnd), q, Array.append_empty]⟩ }
  refine h dx _ hnd dne (I.un (t' := tk') U fun b o q => ?_)
  by_cases hb : b = a
  · subst hb; rw [upd_same] at q; cases q; exact exo_ok hx
  rw [upd_ne hb] at q
  by_cases hd : b = dx
  · subst hd; rw [upd_same] at q; cases q
    exact exd_ok hn (relO_put (fs := []) ry fun g => True.intro)
  rw [upd_ne hd] at q
  refine (I.hok b o q).stay (fun c v hc z => k c v ?_ z) (fun c hc => (upd_ne (at_ne e hc exo_own)).trans ((upd_ne (ne_of_none hc hnd)).trans hc)) (fun c xs hc => (upd_ne (at_ne e hc exo_tup)).trans ((upd_ne (ne_of_none hc hnd)).trans hc))
  rcases hc with rfl | hc
  · exact hb
  · exact at_ne e hc exo_own
theorem stG_old (SF : StoreFacts B bmB "object.__setattr__" "object") (T : OxC X.K C bmB newId) (I : Inv X pins σ H s) (e : H a = some (exo a C (some dx))) (ed : H dx = some (exd dx fs)) (hl : fs.length ≤ 900) (hno : PySem.W.findIn X.K (.ref C) f = some none) (ry : RelV y u)
    (h : ∀ s', Inv X pins σ (upd H dx (exd dx ((f, y) :: fs))) s' → Q () s') : wpAny (model X.prog X.w) A (setAttr (.ref a) f u) Q E s := by
  obtain ⟨t1, ho⟩ := exo_at I.hok e
  obtain ⟨mA, hns, rel⟩ := exd_at I.hok ed
  have hw := within_of rel
  obtain ⟨hp, g, d, t, os⟩ := s
  obtain ⟨oD, _, _, hoD, _, _⟩ := hns.count hw
  refine PySem.W.set_plain I.kIn (ox := { cls := .ref C, dict := some dx, data := .fields #[.ref t1, .none, .none, .none, .bool false, .none] }) (od := some oD) ⟨ho, rfl, rfl, hoD⟩ T.sa ?_
  refine osG_old SF T I.kIn ho hns hw (by rw [List.length_map]; omega) hno fun h' tk' k hn => ?_
  have there : ∃ o, h'.get? dx = some o := by
    obtain ⟨o, _, _, z, _⟩ := hn
    exact ⟨o, z⟩
  exact h _ (I.write (t' := tk') (x := dx) (e := dx) (o := exd dx ((f, y) :: fs)) (by rw [ed]; exact True.intro) (.inl rfl) k there (exd_ok hn (relO_put ry rel)))
end
/-! ### super().__init__, any base -/
section
variable {X : Cx} {pins : List (Addr × Obj)} {σ : L2.St} {H : Hp} {s : Shared}
theorem super_initG {B newId i : String} {bmB : List Value} (KF : KxsFacts B i) (FB : ExcBaseFacts B newId i bmB) {C f cda cc a : Addr} {fd : FuncData} {self msg : Str} {kk : Nat} {p0 p1 p2 p3 p4 : Pos} {body : List Stmt} (I : Inv X [] σ H s) (T : OxC X.K C bmB newId) (S : SupC X.K C B i) (M : IniF X.prog X.K C f cda cc fd self)
    (hks : X.env.kindOf "super" = some .globalImplicit) (hms : X.mg "super" = none) (hkc : X.env.kindOf "__class__" = some .free) (hcl : X.env.cells.lookup ("__class__" : Str) = some cc) (hfu : X.env.func = some f) (hco : X.env.code = .ref cda)
    (hka : X.env.kindOf self = some .local) (hN : X.N[0]? = some self) (hσ : σ[0]? = some (some (.ref a))) (ha : H a = some (exo a C none)) {pl : Sem Bool}
    (he : eval (.Call (.Attribute (.Call (.Name "super" p0) [] [] p1) "__init__" p2) [.Constant (.str msg) kk p3] [] p4) X.env = (do
      let ov ← attributeBase (.Call (.Name "super" p0) [] [] p1) "__init__" X.env (eval (.Call (.Name "super" p0) [] [] p1) X.env)
      standAt p2.atName
      let (f, first) ← holding [ov] (getMethod ov "__init__" pl)
      callWith p4 f first (backTo p4 (starEach [.Constant (.str msg) kk p3] X.env)) []))
    {Q : Value → Shared → Prop} (q : ∀ s', Inv X [] σ H s' → Q .none s') :
    PySem.wpAt (model X.prog X.w) X.A (.func body X.env) (eval (.Call (.Attribute (.Call (.Name "super" p0) [] [] p1) "__init__" p2) [.Constant (.str msg) kk p3] [] p4) X.env) Q X.xe s := by
  obtain ⟨oc, od, osl, lf⟩ := M.look
  obtain ⟨ar, hhead, rfl⟩ := M.head
  obtain ⟨ccl, cdd, vs, ccs, file, tf, lcode, hvs, hfile⟩ := M.code
  obtain ⟨cl, cld, csl, lcell⟩ := M.cell
  obtain ⟨nm, qn, N, bs, bm, sn, sub, ab, col, dd, k0, k1, k2, k3, k5, hC, hbm⟩ := T.cls
  have hcd : PySem.W.clsIn X.K C = some { name := nm, bases := bs, mro := .ref C :: bm, ns := N, qualname := qn, hasDict := true, slotNames := sn, subclasses := sub, abstract := ab, collection := col, hasDel := false } := by unfold PySem.W.clsIn; rw [hC] <;> rfl
  have XK := I.kIn
  obtain ⟨m, hns, hl⟩ := I.loc
  obtain ⟨u, ru, lk⟩ := hl 0 ar.arg (.ref a) hN hσ (Or.inl hka)
  obtain rfl : u = Value.ref a := ru
  have hm : m ar.arg = some (.ref a) := by
    rcases lk with ⟨_, z⟩ | ⟨hk, _⟩
    · exact z
    · rcases hk with hk | hk <;> (rw [hka] at hk; cases hk)
  obtain ⟨t1, hox⟩ := exo_at I.hok ha
  have inst : PySem.W.InstAt s.heap a { cls := .ref C, dict := none, data := .fields #[.ref t1, .none, .none, .none, .bool false, .none] } C none := ⟨hox, rfl, rfl, trivial⟩
  have ne := PySem.W.ks_ne XK inst hcd
  obtain ⟨mb, b1, b2⟩ := I.mod.blt
  refine ks_wpAt_MethodCall (he := he) ?_
  refine ks_wpAt_super_base hks hkc (by decide) hfu (XK _ _ lf) rfl hhead hco (XK _ _ lcode) rfl hvs hfile M.top ?_
  refine PySem.W.ks_loadName_global I.ok.kind hks (Calls.loadGlobal_builtin (by rw [I.ok.glob]; exact I.mod.glob.keeps I.bk) hms (by rw [I.ok.blt]; exact b1.keeps I.bk) ((b2 _ (by decide)).trans (by decide +kernel : bootBuiltins "super" = some (.type "super"))) ⟨rfl, ?_⟩)
  refine wpAny_loadName_free I.ok.kind hkc hcl ⟨_, XK _ _ lcell, rfl⟩ ?_
  refine wpAny_loadName_local I.ok.kind hka hns hm ?_
  have hD2 : ∃ oD, s.heap.get? C = some oD ∧ ∃ cd, oD.data = .cls cd := ⟨_, XK _ _ hC, _, rfl⟩
  obtain ⟨oD, e1, cdD, e2⟩ := hD2
  obtain ⟨hp, gg, dr, tk, os⟩ := s
  refine ks_wpAny_isType_cls e1 e2 ⟨rfl, ?_⟩
  refine ks_wpAny_call_super e1 e2 hox rfl (fun c z => by cases z) (PySem.W.looks_mroIn XK S.own) (fun h1 hso k1 => ?_)
  have I1 : Inv X [] σ H ⟨h1, gg, dr, tk, os⟩ := I.kept (t' := tk) k1
  have X1 := I1.kIn
  have inst1 : PySem.W.InstAt h1 a { cls := .ref C, dict := none, data := .fields #[.ref t1, .none, .none, .none, .bool false, .none] } C none := ⟨k1 _ _ hox, rfl, rfl, trivial⟩
  have hsup := S.sup
  unfold PySem.W.ks_superIn at hsup
  rw [hcd] at hsup
  refine PySem.W.kxs_getMethod KF hso (PySem.W.looks_opaque X1 S.opq) (l₀ := .ref C :: bm) (fun A Q E s k q => wpAny_bind ((PySem.W.looks_clsIn X1 hcd) A _ E s k (wpAny_pure q))) rfl X1 hsup (inst1.type.andThen (PySem.W.looks_subIn X1 S.sub)) ne (by decide) ?_
  have I2 : Inv X [] σ H ⟨h1.push (kxs_mw i a), gg, dr, tk + 1, os⟩ := I1.kept (t' := tk + 1) fun b o e => Heap.get?_push_of_some _ e
  have I3 : Inv X [(h1.objs.size, kxs_mw i a)] σ H ⟨h1.push (kxs_mw i a), gg, dr, tk + 1, os⟩ := I2.pins_of fun p hp => by
    rw [List.mem_singleton] at hp
    subst hp
    exact ⟨Heap.get?_push_at rfl rfl, I1.hok.fresh (Nat.le_refl _), Nat.ne_of_gt I1.lt, I1.nofs (Nat.le_refl _), fun v z => by cases z⟩
  show wpAny _ _ (callWith p4 (.ref h1.objs.size) [] (backTo p4 (starEach [.Constant (.str msg) kk p3] X.env)) []) _ _ _
  have args : PA X [.Constant (.str msg) kk p3] (tCons (tC (.str msg)) tNil) := pa_cons pe_str pa_nil
  refine PySem.W.kxs_callWith (i := i) (x := a) (u := h1.objs.size) rfl (Calls.evalArgs_plain (thn (args.run p4 _ _ σ H (fun vs H' => vs = [.str msg] ∧ H' = H) I3 ⟨rfl, rfl⟩) fun us s1 ⟨vs, H4, I4, r4, e4⟩ => ?_))
  obtain ⟨rfl, rfl⟩ := e4
  have hu4 := (I4.pin _ (List.mem_append_right _ (List.mem_singleton_self _))).1
  refine ⟨hu4, ?_⟩
  obtain ⟨t4, ho4⟩ := exo_at I4.hok ha
  obtain ⟨hp4, g4, d4, k4, o4⟩ := s1
  have hz : us.length ≤ sizeLine := by rw [← Paired.length r4, sizeLine_eq]; show 1 ≤ 16777216; decide
  refine mw_call FB (I4.kIn _ _ hC) ho4 hu4 hz fun h' t5 kk5 x5 => ?_
  have I5 : Inv X [] σ H4 ⟨hp4, g4, d4, k4, o4⟩ := I4.pins_of fun p hp => by cases hp
  have J := I5.write (t' := k4) (x := a) (e := a) (o := exo a C none) (by rw [ha]; exact True.intro) (.inl rfl) kk5 ⟨_, x5⟩ (exo_ok x5)
  have eu : upd H4 a (exo a C none) = H4 := by
    funext b
    by_cases hb : b = a
    · rw [hb, upd_same, ha]
    · rw [upd_ne hb]
  rw [eu] at J
  exact q _ J
end
section
variable {P : Program} {w : World} {K : PySem.W.Frag} {mg : Str → Option Value} {base : Heap} {CX : CXT} {N ps : List Str} {me : Str} {k : Nat} {sp : Sp}
theorem ini_okG {B newId i : String} {bmB : List Value} (KF : KxsFacts B i) (FB : ExcBaseFacts B newId i bmB) {C f cc : Addr} {F : NF} {fd : FuncData} {msg : Str} {kk : Nat} {p0 p1 p2 p3 p4 p5 : Pos} {rest : List Stmt} (M : Ini P K C f cc F fd me) (S : NScope N (me :: ps) ["__class__"] F.scope) (T : OxC K C bmB newId) (SC : SupC K C B i)
    (hbody : F.body = .Expr (.Call (.Attribute (.Call (.Name "super" p0) [] [] p1) "__init__" p2) [.Constant (.str msg) kk p3] [] p4) p5 :: rest) (hs : F.scope.names.lookup ("super" : Str) = some .globalImplicit) (hms : mg "super" = none)
    (len : ∀ vs H Q E, sp vs H Q E → vs.length = (me :: ps).length)
    (hpl : ∀ L : Addr, (∃ pl : Sem Bool, eval (.Call (.Attribute (.Call (.Name "super" p0) [] [] p1) "__init__" p2) [.Constant (.str msg) kk p3] [] p4) (envF F f L) = (do
      let ov ← attributeBase (.Call (.Name "super" p0) [] [] p1) "__init__" (envF F f L) (eval (.Call (.Name "super" p0) [] [] p1) (envF F f L))
      standAt p2.atName
      let (f1, first) ← holding [ov] (getMethod ov "__init__" pl)
      callWith p4 f1 first (backTo p4 (starEach [.Constant (.str msg) kk p3] (envF F f L))) [])) ∧ interactive (envF F f L) = false ∧
      swapsWith (.Call (.Attribute (.Call (.Name "super" p0) [] [] p1) "__init__" p2) [.Constant (.str msg) kk p3] [] p4) none p5.line (envF F f L) = pure false)
    (hq : ∀ (A : Around) (outer : List Env) (s : Shared) (H : Hp) (vs : List V) (Q : VK) (E : XK), Room k (A.deeper (envF F f s.heap.objs.size)) → sp vs H Q E →
      (∃ a vr, vs = .ref a :: vr ∧ H a = some (exo a C none)) ∧ ∃ t, PSs (ncx CX P w K mg base N F f A outer s H E) rest t ∧ t { nx := fun _ H' => Q .non H', rt := Q } (startF N vs [none]) H) :
    FnOk P w K mg base CX (k + 1) f fd (me :: ps) sp := by
  refine ⟨len, fun A outer s H args us vs Q E hr e0 bind r hsp => ?_⟩
  obtain ⟨kV, doc, pm, ct, an, rfl⟩ := M.fds
  obtain ⟨oc, od, osl, look⟩ := M.m.look
  have up : ∀ b o, base.get? b = some o → s.heap.get? b = some o := fun b o e => (e0.bs b o e).1
  have KX : K.In s.heap := e0.mod.kin.keeps up
  have hl := len _ _ _ _ hsp
  obtain ⟨cl, cld, csl, lcell⟩ := M.m.cell
  have hcc := e0.bs _ _ (e0.mod.kin _ _ lcell)
  have cell1 : ∀ y c, F.cl.lookup y = some c → c = cc ∧ y = "__class__" := fun y c e => by
    rw [M.cl] at e
    by_cases z : y = ("__class__" : Str)
    · subst z
      simp [List.lookup] at e
      exact ⟨e.symm, rfl⟩
    · have z' : (y == ("__class__" : Str)) = false := by simpa using z
      simp [List.lookup, z'] at e
  have cell2 : F.cl.lookup ("__class__" : Str) = some cc := by rw [M.cl]; simp [List.lookup]
  have cells : CellsAt F.cl ["__class__"] [none] s.heap H := {
    len := rfl
    all := fun y c e => by
      obtain ⟨rfl, _⟩ := cell1 y c e
      exact ⟨hcc.2, _, _, hcc.1, rfl⟩
    inj := fun x y c e1 e2 => (cell1 x c e1).2.trans (cell1 y c e2).2.symm
    has := fun i y hi => by
      cases i with
      | zero =>
        simp at hi
        subst hi
        exact ⟨cc, cell2, fun v z => by simp at z⟩
      | succ i => simp at hi }
  refine ks_codeAny_call_defAt (body := F.body) hr.depth (KX _ _ look) rfl (e0.mod.nolimit.keeps up) (PySem.W.codeRec_of KX M.code) rfl bind S.nocell (fun y hy => S.par y.1 (List.of_mem_zip hy).1) (fun h₁ hns kp => ?_) S.co S.gen S.kind
  obtain ⟨⟨a, vr, rfl, ha⟩, t, ht, want⟩ := hq A outer s H vs Q E (hr.deeper _) hsp
  have I : Inv (ncx CX P w K mg base N F f A outer s H E) [] (startF N (.ref a :: vr) [none]) H { s with heap := h₁, toks := s.toks + ((me :: ps).zip us).length } := inv_startN S hr.hd e0 hl r cells hns kp
  have hN0 : N[0]? = some me := by
    have q := congrArg (fun l => l[0]?) S.pre
    simp only [List.length_cons] at q
    rw [List.getElem?_take_of_lt (by omega)] at q
    simpa using q
  rw [hbody]
  obtain ⟨⟨pl, he⟩, hin, hsw⟩ := hpl s.heap.objs.size
  have step := super_initG KF FB (X := ncx CX P w K mg base N F f A outer s H E) (body := F.body) (pl := pl) (p0 := p0) (p1 := p1) (p2 := p2) (p3 := p3) (p4 := p4) (msg := msg) (kk := kk) I T SC M.m hs hms (S.frk _ (by simp)) cell2 rfl rfl (S.par _ (by simp)) hN0 rfl ha he
    (Q := fun _ s' => Inv (ncx CX P w K mg base N F f A outer s H E) [] (startF N (.ref a :: vr) [none]) H s') fun s' J => J
  rw [hbody] at step
  refine ks_wpAt_execs_cons (ks_wpAt_Expr_any (ks_wpAt_mono step (fun v s' J => ?_) fun e s' z => z) hin hsw)
  refine wpAt_of_wpAny (wpAny_mono (ht.run [] _ _ H _ J want) (fun fl s2 z => ?_) fun e s2 z => z)
  have fin : ∀ {σ' : L2.St} {H' : Hp} {v : V} {u : Value}, Inv (ncx CX P w K mg base N F f A outer s H E) [] σ' H' s2 → RelV v u → Q v H' → CE outer P w H s Q u s2 := fun {σ' H' v u} J rv q => ⟨v, H', J.os, J.bare, J.base, J.hok, rv, q⟩
  cases fl with
  | ret u =>
    obtain ⟨v, σ', H', J, rv, q⟩ := z
    exact fin J rv q
  | next =>
    obtain ⟨σ', H', J, q⟩ := z
    exact fin (v := V.non) (u := Value.none) J rfl q
  | brk =>
    obtain ⟨_, _, _, q⟩ := z
    exact False.elim q
  | cont =>
    obtain ⟨_, _, _, q⟩ := z
    exact False.elim q
end
end G
set_option Elab.async false
set_option linter.all false
set_option maxRecDepth 100000
set_option maxHeartbeats 2000000
/-! own errors as values: stored fields, made, read -/
namespace G
open PySem L2 NdefX
open PySem.W (kxs_mw KxsFacts)
/-- self.f = e -/
def tOstG (K : PySem.W.Frag) (bmB : List Value) (newId : String) (f : Str) (to te : TE) : TS := fun D σ H => te σ H fun y H1 => to σ H1 fun x H2 => ∃ a C : Addr, x = .ref a ∧ OxC K C bmB newId ∧ PySem.W.findIn K (.ref C) f = some none ∧
  ((H2 a = some (exo a C none) ∧ ∀ dx, H2 dx = none → dx ≠ a → D.nx σ (upd (upd H2 dx (exd dx [(f, y)])) a (exo a C (some dx)))) ∨
    ∃ (dx : Addr) (fs : List (Str × V)), H2 a = some (exo a C (some dx)) ∧ H2 dx = some (exd dx fs) ∧ fs.length ≤ 900 ∧ D.nx σ (upd H2 dx (exd dx ((f, y) :: fs))))
/-- C(e, ..) as a value, C's own __init__ keeping sp -/
def tMkV (C : Addr) (sp : Sp) (ta : TA) : TE := fun σ H Q => ta σ H fun vs H1 => vs.length ≤ 1000 ∧ ∀ a, H1 a = none → sp (.ref a :: vs) (upd H1 a (exo a C none)) (fun v H2 => v = .non ∧ Q (.ref a) H2) E0
/-- e.f, e such an error -/
def tFldO (C : Addr) (f : Str) (te : TE) : TE := fun σ H Q => te σ H fun x H1 => ∃ (a d : Addr) (fs : List (Str × V)) (v : V), x = .ref a ∧ H1 a = some (exo a C (some d)) ∧ H1 d = some (exd d fs) ∧ fs.lookup f = some v ∧ Q v H1
section
variable {X : Cx} {o e : Expr} {es : List Expr} {to te : TE} {ta : TA} {f : Str} {p p' pos : Pos} {bmB : List Value} {newId B i : String}
theorem ps_ostG (K : PySem.W.Frag) (SF : StoreFacts B bmB "object.__setattr__" "object") (ho : PE X o to) (he : PE X e te) (hs : swapsWith e (some (.Attribute o f p')) pos.line X.env = pure false := by rfl) (hK : X.K = K := by rfl) : PS X (.Assign [.Attribute o f p'] e pos) (tOstG K bmB newId f to te) := by
  subst hK
  constructor
  intro pins s σ H D I h
  refine plainObj_wpAny_Assign_Attribute (thn (he.run pins s σ H _ I h) fun v s1 ⟨y, H1, I1, r1, q1⟩ => thn (ho.run pins s1 σ H1 _ I1 q1) fun u s2 ⟨x, H2, I2, r2, a, C, ex, T, hno, q⟩ => ?_) hs
  subst ex
  obtain rfl : u = Value.ref a := r2
  rcases q with ⟨ea, q⟩ | ⟨dx, fs, ea, ed, hl, q⟩
  · exact stG_new SF T I2 ea hno r1 fun dx s' n ne J => ⟨σ, _, J, q dx n ne⟩
  · exact stG_old SF T I2 ea ed hl hno r1 fun s' J => ⟨σ, _, J, q⟩
theorem pe_mkV {x : Str} {C fI : Addr} {k : Nat} {fd : FuncData} {ps : List Str} {sp : Sp} (FB : ExcBaseFacts B newId i bmB) (T : OxC X.K C bmB newId) (iC : PySem.W.findIn X.K (.ref C) "__init__" = some (some (.ref fI))) (tI : PySem.W.typeIn X.K (.ref fI) = some (.type "function"))
    (F1 : FnOk X.prog X.w X.K X.mg X.base CX0 k fI fd ps sp) (hr : Room (k + 1) X.A) (hb : Binds X.K fd ps []) (hg : Gl X x) (hm : X.mg x = some (.ref C)) (ha : PA X (e :: es) ta)
    (hdb : (x == ("__debug__" : Str)) = false := by decide) (he : starEach (e :: es) X.env = (false, eval e X.env) :: starEach es X.env := by rfl) (hpl : (backTo pos (starEach es X.env)).any (·.1) = false := by rfl) :
    PE X (.Call (.Name x p) (e :: es) [] pos) (tMkV C sp ta) := by
  constructor
  intro pins s σ H Q I h
  obtain ⟨nm, q, N, bs, bm, sn, sub, ab, col, dd, k0, k1, k2, k3, k5, hC, hbm⟩ := T.cls
  refine wpAny_Call_Name_kw (ld_glob I hg hm ?_ hdb)
  refine PySem.W.callWith_K (h₀ := X.base) I.ok.mod.kin T.kC (thn (ha.run pos pins s σ H _ I h) fun us s1 ⟨vs, H1, I1, r1, hz, q1⟩ => ⟨I1.kIn, ?_⟩) he hpl
  show wpAny _ _ (call (.ref C) us) _ _ _
  obtain ⟨hp, g, dr, tk, os⟩ := s1
  have hq := q1 (hp.objs.size + 1) (I1.hok.fresh (Nat.le_succ _))
  have kk : ∀ b o, hp.get? b = some o → ((hp.push (PySem.W.kdv_tup us)).push (HandSPX.excO C hp.objs.size)).get? b = some o := fun b o z => Heap.get?_push_of_some _ (Heap.get?_push_of_some _ z)
  have got : ((hp.push (PySem.W.kdv_tup us)).push (HandSPX.excO C hp.objs.size)).get? (hp.objs.size + 1) = some (HandSPX.excO C hp.objs.size) := by heap_get
  have I2 : Inv X pins σ (upd H1 (hp.objs.size + 1) (exo (hp.objs.size + 1) C none)) ⟨(hp.push (PySem.W.kdv_tup us)).push (HandSPX.excO C hp.objs.size), g, dr, tk, os⟩ :=
    I1.laid (t' := tk) (a := hp.objs.size + 1) (h' := (hp.push (PySem.W.kdv_tup us)).push (HandSPX.excO C hp.objs.size)) kk (Nat.le_succ _) (exo_ok got)
  have r2 : Vals (V.ref (hp.objs.size + 1) :: vs) (Value.ref (hp.objs.size + 1) :: us) := .cons rfl r1
  have many : (Value.ref (hp.objs.size + 1) :: us).length = ps.length := by rw [← r2.length]; exact F1.len _ _ _ _ hq
  have hus : us.length ≤ sizeLine := by rw [← Paired.length r1, sizeLine_eq]; omega
  have bind := hb _ (Value.ref (hp.objs.size + 1) :: us) I2.kIn (by rw [List.append_nil]; exact many)
  rw [List.append_nil] at bind
  refine wpAny_call (HandSPX.call_own FB (fun Y => PySem.W.excTail_contains Y bm hbm) (I1.kIn _ _ hC) (PySem.W.looks_findIn I1.kIn iC) (fun self => PySem.W.bind_fn I1.kIn self tI) hus
    (codeAny_mono (F1.run _ X.stack _ _ ⟨Value.ref (hp.objs.size + 1) :: us, []⟩ _ _ _ _ (hr.make C us []) (I2.env0.make C us []) bind r2 hq) fun r s' z => ?_))
  cases r with
  | error er => exact False.elim z
  | ok fl =>
    cases fl with
    | ret u =>
      obtain ⟨v, H2, J, rv, ev, qq⟩ := I2.after z
      subst ev
      exact ⟨rv, .ref (hp.objs.size + 1), H2, J, rfl, qq⟩
    | next => exact False.elim z
    | brk => exact False.elim z
    | cont => exact False.elim z
theorem pe_fldO {C : Addr} (T : XfC X.K C) (hno : PySem.W.findIn X.K (.ref C) f = some none) (he : PE X e te) (hb : attributeBase e f X.env (eval e X.env) = eval e X.env := by rfl) : PE X (.Attribute e f pos) (tFldO C f te) := by
  constructor
  intro pins s σ H Q I h
  refine attr_of hb (thn (he.run pins s σ H _ I h) fun u s1 hh => ?_)
  obtain ⟨x, H1, I1, rx, a, d, fs, v, ex, ea, ed, l, q⟩ := hh
  subst ex
  obtain rfl : u = Value.ref a := rx
  obtain ⟨t1, hx⟩ := exo_at I1.hok ea
  obtain ⟨mA, hns, hr⟩ := exd_at I1.hok ed
  obtain ⟨od, ho, hl⟩ := lookIn_ns hns
  obtain ⟨u, hu, ru⟩ := RelO.some_of (v := v) (o := mA f) (by rw [← l]; exact hr f)
  have J : PySem.W.InstAt s1.heap a _ C (some od) := ⟨hx, rfl, rfl, ho⟩
  exact HandSPX.exc_get I1.kIn J T.ga T.gg T.exC (PySem.W.findObj_own T.hdC hno rfl (by rw [hl, hu])) (handed_of ru) ⟨v, H1, I1.tok _, ru, q⟩
end
end G
set_option Elab.async false
set_option linter.all false
set_option maxRecDepth 100000
set_option maxHeartbeats 2000000
/-! tuples whose object is known; isinstance(x, (list, tuple)) -/
namespace G
open PySem L2 NdefX
def tupO (us : List Value) : Obj := { cls := .type "tuple", data := .seq us.toArray }
/-- (e, ..) laid as its object -/
def tTupF : TA → TE := fun t σ H Q => t σ H fun xs H1 => xs.length ≤ sizeLine ∧ ∀ p us, H1 p = none → Vals xs us → Q (.ref p) (upd H1 p (.frz (tupO us) (.tup xs)))
section
variable {X : Cx} {es : List Expr} {t : TA} {pos : Pos} {k : Nat}
theorem pe_tupF (ha : PA X es t) : PE X (.Tuple es k pos) (tTupF t) := by
  constructor
  intro pins s σ H Q I h
  refine wpAny_Tuple (thn (ha.run pos pins s σ H _ I h) fun us s1 hh => ?_)
  obtain ⟨xs, H1, I1, r1, hl, q⟩ := hh
  have hus : us.length ≤ sizeLine := by rw [← Paired.length r1]; exact hl
  refine ⟨hus, ?_⟩
  have hf := I1.hok.fresh (Nat.le_refl s1.heap.objs.size)
  obtain ⟨hp, g, dr, tk, os⟩ := s1
  have got : (hp.push (tupO us)).get? hp.objs.size = some (tupO us) := Heap.get?_push_size _ rfl
  exact ⟨.ref hp.objs.size, _, I1.laid (o := .frz (tupO us) (.tup xs)) (t' := tk) (a := hp.objs.size) (h' := hp.push (tupO us)) (fun b u e => Heap.get?_push_of_some _ e) (Nat.le_refl _) (show _ = some _ ∧ ObjOk _ _ _ _ _ (.tup xs) from ⟨got, hl, us, r1, _, got, rfl, 0, rfl⟩), rfl, q _ us hf r1⟩
end

inductive IsLT (K : PySem.W.Frag) (H : Hp) : V → Bool → Prop
  | int (i : Int) : IsLT K H (.int i) false
  | str (x : Str) : IsLT K H (.str x) false
  | lst {a : Addr} {vs : List V} : H a = some (.lst vs) → IsLT K H (.ref a) true
  | tup {a : Addr} {vs : List V} : SqT K H a vs → IsLT K H (.ref a) true
def rIsLT (K : PySem.W.Frag) : List V → Hp → VK → Prop := fun xs H Q => ∃ (x : V) (T : Addr) (ys : List V) (us : List Value) (b : Bool), xs = [x, .ref T] ∧ H T = some (.frz (tupO us) (.tup ys)) ∧ ys = [.ty "list", .ty "tuple"] ∧ Vals ys us ∧ IsLT K H x b ∧ Q (.bl b) H
theorem isLT_ans {X : Cx} {pins : List (Addr × Obj)} {σ : St} {H : Hp} {s : Shared} {x : V} {u : Value} {b : Bool} (I : Inv X pins σ H s) (r : RelV x u) (h : IsLT X.K H x b) :
    ∃ (Tx : String) (vs : List Bool), AnswersAll (fun s => s.TypeIs u Tx) u [.type "list", .type "tuple"] vs ∧ s.TypeIs u Tx ∧ vs.any id = b := by
  cases h with
  | int i =>
    obtain ⟨tk, rfl⟩ : ∃ tk, u = .int i tk := by cases u <;> simp_all [RelV]
    exact ⟨"int", [false, false], ⟨.of_false_int (by decide) F.isi_meta_list F.sub_int_list, .of_false_int (by decide) F.isi_meta_tuple F.sub_int_tuple, trivial⟩, rfl, rfl⟩
  | str x =>
    obtain ⟨tk, rfl⟩ : ∃ tk, u = .str x tk := by cases u <;> simp_all [RelV]
    exact ⟨"str", [false, false], ⟨.of_false_str (by decide) F.isi_meta_list F.sub_str_list, .of_false_str (by decide) F.isi_meta_tuple F.sub_str_tuple, trivial⟩, rfl, rfl⟩
  | @lst a vs e =>
    obtain rfl : u = .ref a := r
    obtain ⟨hl, its, hv, ho⟩ := I.hok a _ e
    exact ⟨"list", [true, false], ⟨.of_true F.isi_meta_list (by rfl), .of_false_list (by decide) F.isi_meta_tuple F.sub_list_tuple, trivial⟩, ⟨_, ho.2, rfl⟩, rfl⟩
  | @tup a vs e =>
    obtain rfl : u = .ref a := r
    obtain ⟨its, hv, ⟨o, ho, hc, hd⟩, hl⟩ := I.tuple e
    exact ⟨"tuple", [false, true], ⟨.of_false_tuple (by decide) F.isi_meta_list F.sub_tuple_list, .of_true F.isi_meta_tuple F.isi_sub_tuple, trivial⟩, ⟨o, ho, hc⟩, rfl⟩
theorem c_isLT {X : Cx} {K : PySem.W.Frag} (hK : X.K = K := by rfl) : CallR X (.builtin "isinstance") (rIsLT K) := by
  subst hK
  intro pins s σ H xs us Q I r h
  obtain ⟨x, T, ys, ws, b, rfl, hT, rfl, hw, hb, q⟩ := h
  obtain ⟨u1, u2, rfl, r1, r2⟩ := vals2 r
  obtain rfl : u2 = .ref T := r2
  obtain ⟨Tx, vs, an, ti, ev⟩ := isLT_ans I r1 hb
  have hg : s.heap.get? T = some (tupO ws) := (I.hok T _ hT).1
  have ew : ws = [.type "list", .type "tuple"] := by
    obtain ⟨a1, a2, rfl, q1, q2⟩ := vals2 hw
    obtain rfl : a1 = _ := q1
    obtain rfl : a2 = _ := q2
    rfl
  subst ew
  refine call_function_meets PyProof.Rows.kind_isinstance (by decide +kernel) PyProof.Rows.entry_isinstance (PyProof.Rows.args_isinstance _ _) (isinstance_tuple an) ⟨ti, hg, fun tk => ?_⟩
  exact ⟨.bl b, H, I.tok tk, by rw [ev]; rfl, q⟩
end G
set_option Elab.async false
set_option linter.all false
set_option maxRecDepth 100000
set_option maxHeartbeats 2000000
set_option exponentiation.threshold 10000
namespace G
open PySem L2 NdefX
/-! ### trees of lists, tuples and dicts of one key, at addresses of S, at most n deep -/
mutual
inductive TrI (H : Hp) : (Addr → Prop) → Nat → V → PyData → Prop
  | int {S : Addr → Prop} {n : Nat} (i : Int) : TrI H S n (.int i) (.int i)
  | str {S : Addr → Prop} {n : Nat} (x : Str) : TrI H S n (.str x) (.str x)
  | lst {S : Addr → Prop} {n : Nat} {a : Addr} {vs : List V} {ds : List PyData} : S a → H a = some (.lst vs) → vs.length ≤ 100 → TrL H S n vs ds → TrI H S (n + 1) (.ref a) (.list ds)
  | tup {S : Addr → Prop} {n : Nat} {a : Addr} {vs : List V} {ds : List PyData} : S a → H a = some (.tup vs) → vs.length ≤ 100 → TrL H S n vs ds → TrI H S (n + 1) (.ref a) (.tuple ds)
  | dct {S : Addr → Prop} {n : Nat} {a : Addr} {k : Str} {v : V} {d : PyData} : S a → H a = some (.dK [(.inr k, v)]) → TrI H (fun b => S b ∧ b ≠ a) n v d → TrI H S (n + 1) (.ref a) (.dict [(.str k, d)])
inductive TrL (H : Hp) : (Addr → Prop) → Nat → List V → List PyData → Prop
  | nil {S : Addr → Prop} {n : Nat} : TrL H S n [] []
  | cons {S : Addr → Prop} {n : Nat} {v : V} {vs : List V} {d : PyData} {ds : List PyData} : TrI H S n v d → TrL H S n vs ds → TrL H S n (v :: vs) (d :: ds)
end
abbrev Tr (S : Addr → Prop) (H : Hp) (n : Nat) (v : V) (d : PyData) : Prop := TrI H S n v d
abbrev TrAll (S : Addr → Prop) (H : Hp) (n : Nat) (vs : List V) (ds : List PyData) : Prop := TrL H S n vs ds
mutual
theorem TrI.keep {H H' : Hp} : ∀ {S S' : Addr → Prop} {n : Nat} {v : V} {d : PyData}, TrI H S n v d → (∀ b, S b → S' b) → (∀ b o, S b → H b = some o → H' b = some o) → TrI H' S' n v d
  | _, _, _, _, _, .int i, _, _ => .int i
  | _, _, _, _, _, .str x, _, _ => .str x
  | _, _, _, _, _, .lst s e z h, w, k => .lst (w _ s) (k _ _ s e) z (TrL.keep h w k)
  | _, _, _, _, _, .tup s e z h, w, k => .tup (w _ s) (k _ _ s e) z (TrL.keep h w k)
  | _, _, _, _, _, .dct s e h, w, k => .dct (w _ s) (k _ _ s e) (TrI.keep h (fun b q => ⟨w b q.1, q.2⟩) fun b o q => k b o q.1)
theorem TrL.keep {H H' : Hp} : ∀ {S S' : Addr → Prop} {n : Nat} {vs : List V} {ds : List PyData}, TrL H S n vs ds → (∀ b, S b → S' b) → (∀ b o, S b → H b = some o → H' b = some o) → TrL H' S' n vs ds
  | _, _, _, _, _, .nil, _, _ => .nil
  | _, _, _, _, _, .cons h t, w, k => .cons (TrI.keep h w k) (TrL.keep t w k)
end
theorem TrL.len {S : Addr → Prop} {H : Hp} {n : Nat} : ∀ {vs : List V} {ds : List PyData}, TrAll S H n vs ds → vs.length = ds.length
  | _, _, .nil => rfl
  | _, _, .cons _ t => by simp [TrL.len t]
theorem TrL.get {S : Addr → Prop} {H : Hp} {n : Nat} : ∀ {vs : List V} {ds : List PyData} {i : Nat} {v : V}, TrAll S H n vs ds → vs[i]? = some v → ∃ d, ds[i]? = some d ∧ Tr S H n v d
  | _, _, _, _, .nil, e => by simp at e
  | _, _, 0, v, .cons h _, e => by simp at e; subst e; exact ⟨_, rfl, h⟩
  | _, _, i + 1, v, .cons _ t, e => by
    obtain ⟨d, h1, h2⟩ := TrL.get (i := i) t (by simpa using e)
    exact ⟨d, by simpa using h1, h2⟩
theorem TrL.app {S : Addr → Prop} {H : Hp} {n : Nat} : ∀ {vs ws : List V} {ds es : List PyData}, TrAll S H n vs ds → TrAll S H n ws es → TrAll S H n (vs ++ ws) (ds ++ es)
  | _, _, _, _, .nil, h => h
  | _, _, _, _, .cons h t, h' => .cons h (TrL.app t h')
def Fresh (H : Hp) : Addr → Prop := fun a => H a = none
mutual
theorem TrI.keep2 {H H' : Hp} : ∀ {S S' : Addr → Prop} {n : Nat} {v : V} {d : PyData}, TrI H S n v d → (∀ b o, S b → H b = some o → S' b ∧ H' b = some o) → TrI H' S' n v d
  | _, _, _, _, _, .int i, _ => .int i
  | _, _, _, _, _, .str x, _ => .str x
  | _, _, _, _, _, .lst s e z h, w => .lst (w _ _ s e).1 (w _ _ s e).2 z (TrL.keep2 h w)
  | _, _, _, _, _, .tup s e z h, w => .tup (w _ _ s e).1 (w _ _ s e).2 z (TrL.keep2 h w)
  | _, _, _, _, _, .dct s e h, w => .dct (w _ _ s e).1 (w _ _ s e).2 (TrI.keep2 h fun b o q z => ⟨⟨(w b o q.1 z).1, q.2⟩, (w b o q.1 z).2⟩)
theorem TrL.keep2 {H H' : Hp} : ∀ {S S' : Addr → Prop} {n : Nat} {vs : List V} {ds : List PyData}, TrL H S n vs ds → (∀ b o, S b → H b = some o → S' b ∧ H' b = some o) → TrL H' S' n vs ds
  | _, _, _, _, _, .nil, _ => .nil
  | _, _, _, _, _, .cons h t, w => .cons (TrI.keep2 h w) (TrL.keep2 t w)
end
def kids : PyData → List PyData
  | .list ds => ds
  | .tuple ds => ds
  | .dict [(_, d)] => [d]
  | _ => []
def sp_parts : Sp := fun vs H Q _ => ∃ (S : Addr → Prop) (n : Nat) (v : V) (d : PyData), vs = [v] ∧ Tr S H n v d ∧ ∀ (p : Addr) (xs : List V) (H' : Hp), Kp M0 H H' → H p = none → H' p = some (.lst xs) → TrAll S H' (n - 1) xs (kids d) → Q (.ref p) H'
def sp_put : Sp := fun vs H Q _ => ∃ (S T : Addr → Prop) (n : Nat) (v : V) (d : PyData) (p : Addr) (xs : List V), vs = [v, .ref p] ∧ Tr S H n v d ∧ H p = some (.lst xs) ∧ ¬ T p ∧ TrAll T H (n - 1) xs (kids d) ∧
  ∀ (v' : V) (H' : Hp), Kp M0 H H' → Tr (fun b => T b ∨ b = p ∨ H b = none) H' n v' d → Q v' H'
def sp_cp (n : Nat) : Sp := fun vs H Q _ => ∃ (S : Addr → Prop) (v : V) (d : PyData), vs = [v] ∧ Tr S H n v d ∧ ∀ (v' : V) (H' : Hp), Kp M0 H H' → Tr (Fresh H) H' n v' d → Q v' H'
section
variable {P : Program} {w : World} {K : PySem.W.Frag} {mg : Str → Option Value} {base : Heap}
theorem kit_no (K : PySem.W.Frag) {a b : String} (h : (Value.type a == Value.type b) = false) (h2 : PySem.W.kitCls K (.type a) (.type b) = some false) : PySem.W.kitOne K (.type a) (.type b) = some false := by
  unfold PySem.W.kitOne
  rw [if_neg (by rw [h]; simp), h2]
theorem int_list (K : PySem.W.Frag) : PySem.W.kitOne K (.type "int") (.type "list") = some false := kit_no K (by decide) (by kernel_rfl)
theorem int_tuple (K : PySem.W.Frag) : PySem.W.kitOne K (.type "int") (.type "tuple") = some false := kit_no K (by decide) (by kernel_rfl)
theorem int_dict (K : PySem.W.Frag) : PySem.W.kitOne K (.type "int") (.type "dict") = some false := kit_no K (by decide) (by kernel_rfl)
theorem kit_table (K : PySem.W.Frag) : PySem.W.kitOne K (.type "str") (.type "list") = some false ∧ PySem.W.kitOne K (.type "str") (.type "tuple") = some false ∧ PySem.W.kitOne K (.type "str") (.type "dict") = some false ∧
    PySem.W.kitOne K (.type "tuple") (.type "list") = some false ∧ PySem.W.kitOne K (.type "dict") (.type "list") = some false ∧ PySem.W.kitOne K (.type "dict") (.type "tuple") = some false :=
  ⟨kit_no K (by decide) (by kernel_rfl), kit_no K (by decide) (by kernel_rfl), kit_no K (by decide) (by kernel_rfl), kit_no K (by decide) (by kernel_rfl), kit_no K (by decide) (by kernel_rfl), kit_no K (by decide) (by kernel_rfl)⟩
theorem kp0 {H H' : Hp} (k : Kp M0 H H') {b : Addr} {o : HO} (e : H b = some o) : H' b = some o := k b o e (fun z => z)
theorem ok_parts_in (W : Ds K mg) : FnOk P w K mg base CX0 1 W.f_parts_in W.fd_parts_in P_parts_in sp_parts := by
  obtain ⟨sl, st, sd, tl, dl, dt⟩ := kit_table K
  have ld : PySem.W.kitOne K (.type "list") (.type "dict") = some false := kit_no K (by decide) (by kernel_rfl)
  have td : PySem.W.kitOne K (.type "tuple") (.type "dict") = some false := kit_no K (by decide) (by kernel_rfl)
  have nd := sc_parts_in.nd
  refine W.D_parts_in.F.ok sc_parts_in (fun vs H Q E h => ?len) (fun cdv A outer s H vs Q E hr h => ?body)
  case len =>
    obtain ⟨S, n, v, d, rfl, _⟩ := h
    rfl
  case body =>
    obtain ⟨S, n, v, d, rfl, tr, k⟩ := h
    have hu := hu_of hr
    refine ⟨_, (pss_cons (ps_if (pt_val (pe_callB (c_isi K) (by rfl) W.T.b_isinstance (by decide +kernel) (pa_cons (pv 0) (pa_cons (pe_bltn (v := .ty "dict") (u := .type "dict") (by rfl) W.T.b_dict (by decide +kernel) (by rfl)) pa_nil))))
        (pss_one (ps_ret (pe_lock (pe_lc (own := [("key", 1)]) rfl nd (pi_keys (pv 0)) (blkOk_by (N := N_parts_in) (sc := defScope s_parts_in) (by decide +kernel)) (fun _ _ _ _ _ => (pg_name (i := 1) nd rfl (by first | exact Or.inl rfl | exact Or.inr rfl))) (fun _ _ _ _ _ => pts_nil) (fun _ _ _ _ _ => (pe_dget hu (pv 0) (pv 1) (fun _ _ => rfl))))))) pss_nil)
      (pss_one (ps_ret (pe_ifExp (pt_val (pe_callB (c_isLT (K := K)) (by rfl) W.T.b_isinstance (by decide +kernel) (pa_cons (pv 0) (pa_cons (pe_tupF (pa_cons (pe_bltn (v := .ty "list") (u := .type "list") (by rfl) W.T.b_list (by decide +kernel) (by rfl)) (pa_cons (pe_bltn (v := .ty "tuple") (u := .type "tuple") (by rfl) W.T.b_tuple (by decide +kernel) (by rfl)) pa_nil))) pa_nil))))
        (pe_callTy (c_list K) (by rfl) W.T.b_list (by decide +kernel) (pa_cons (pv 0) pa_nil)) (pe_lst pa_nil))))), ?_⟩
    simp only [tTupF, tSeq, tIfS, tNext, tRet, tRetN, tAsg, tDrop, tPar, tCons, tNil, tCB, tVar, tC, tOp, rI, rI0, rU, tTest, tB, tTup, tLst, gName, tIf, tAnd, tOr, tNot, tAndV, tOrV, tNotV, tUn, tCall, tChain, tSl, tNoPart, tPart, tBM, tBM0, tDGet, sDPut, rIxT, rIxL, rMulK, rLenK, rLstK, tTruK, gTup, gCons, gNil, rEq, rNe, scal, tNever, rMulK, rGcd, L2.start, List.map, List.length, List.replicate, List.cons_append, List.nil_append, List.append_nil, List.set, List.set_cons_zero, List.set_cons_succ, List.getElem?_cons_succ, List.getElem?_cons_zero, Option.some.injEq, List.cons.injEq, V.int.injEq, V.str.injEq, V.bl.injEq, V.ref.injEq, and_true, true_and, exists_eq_left, exists_eq_left', exists_eq_right, exists_eq_right', exists_eq, exists_and_left, exists_and_right, and_assoc, exists_false, false_and, and_false, or_false, false_or, reduceCtorEq, Nat.reduceAdd, Nat.reduceSub, List.append_assoc, eq_self, if_true, if_false, Bool.false_eq_true, decide_eq_true_eq, List.length_cons, List.length_nil]
    have two : 2 ≤ sizeLine := by rw [sizeLine_eq]; omega
    cases tr with
    | int i =>
      refine ⟨_, _, _, _, false, rfl, .ty _, .base (.int i), int_dict K, _, rfl, ?_⟩
      rw [if_neg (by simp)]
      refine ⟨two, fun p us hp hv => ⟨_, p, _, us, false, rfl, upd_same, rfl, hv, .int i, _, rfl, ?_⟩⟩
      rw [if_neg (by simp)]
      exact ⟨by omega, fun q hq => k q [] _ ((Kp.new hp).trans (Kp.new hq)) (none0 (Kp.new hp) hq) upd_same .nil⟩
    | str x =>
      refine ⟨_, _, _, _, false, rfl, .ty _, .base (.str x), sd, _, rfl, ?_⟩
      rw [if_neg (by simp)]
      refine ⟨two, fun p us hp hv => ⟨_, p, _, us, false, rfl, upd_same, rfl, hv, .str x, _, rfl, ?_⟩⟩
      rw [if_neg (by simp)]
      exact ⟨by omega, fun q hq => k q [] _ ((Kp.new hp).trans (Kp.new hq)) (none0 (Kp.new hp) hq) upd_same .nil⟩
    | @lst _ n a vs ds sa e z h =>
      refine ⟨_, _, _, _, false, rfl, .ty _, .base (.lst e), ld, _, rfl, ?_⟩
      rw [if_neg (by simp)]
      refine ⟨two, fun p us hp hv => ?_⟩
      have e1 : upd H p (HO.frz (tupO us) (HO.tup [V.ty "list", V.ty "tuple"])) a = some (.lst vs) := by rw [upd_ne (ne_of_none e hp)]; exact e
      refine ⟨_, p, _, us, true, rfl, upd_same, rfl, hv, .lst e1, _, rfl, ?_⟩
      rw [if_pos rfl]
      refine ⟨a, rfl, vs, Or.inl (sqL_mk e1), fun l hl => k l vs _ ((Kp.new hp).trans (Kp.new hl)) (none0 (Kp.new hp) hl) upd_same ?_⟩
      exact h.keep2 fun b o q r => ⟨q, kp0 ((Kp.new hp).trans (Kp.new hl)) r⟩
    | @tup _ n a vs ds sa e z h =>
      refine ⟨_, _, _, _, false, rfl, .ty _, .base (.tup e), td, _, rfl, ?_⟩
      rw [if_neg (by simp)]
      refine ⟨two, fun p us hp hv => ?_⟩
      have e1 : upd H p (HO.frz (tupO us) (HO.tup [V.ty "list", V.ty "tuple"])) a = some (.tup vs) := by rw [upd_ne (ne_of_none e hp)]; exact e
      refine ⟨_, p, _, us, true, rfl, upd_same, rfl, hv, .tup (sqT_mk e1), _, rfl, ?_⟩
      rw [if_pos rfl]
      refine ⟨a, rfl, vs, Or.inr (sqT_mk e1), fun l hl => k l vs _ ((Kp.new hp).trans (Kp.new hl)) (none0 (Kp.new hp) hl) upd_same ?_⟩
      exact h.keep2 fun b o q r => ⟨q, kp0 ((Kp.new hp).trans (Kp.new hl)) r⟩
    | @dct _ n a kk v d sa e h =>
      refine ⟨_, _, _, _, true, rfl, .ty _, .base (.dK e), kitOne_same K "dict", _, rfl, ?_⟩
      rw [if_pos rfl]
      refine ⟨a, _, e, trivial, fun od => ?_⟩
      refine ⟨_, rfl, a, od, rfl, Or.inl ⟨_, upd_same, fun D hD => ?_⟩⟩
      have nda : D ≠ a := fun q => by subst q; rw [upd_same] at hD; cases hD
      have hD0 : H D = none := by rw [upd_ne nda] at hD; exact hD
      have at_a : ∀ o, upd (upd H a (HO.frz od (HO.dK [(Sum.inr kk, v)]))) D o a = some (HO.frz od (HO.dK [(Sum.inr kk, v)])) := fun o => by rw [upd_ne (Ne.symm nda)]; exact upd_same
      refine ⟨fun i m H' => (i = 0 ∧ m = 1 ∧ H' = upd (upd H a (HO.frz od (HO.dK [(Sum.inr kk, v)]))) D (HO.lst [])) ∨
        (i = 1 ∧ m = 0 ∧ H' = upd (upd H a (HO.frz od (HO.dK [(Sum.inr kk, v)]))) D (HO.lst [v])), ⟨1, Or.inl ⟨rfl, rfl, rfl⟩⟩, fun i m H' hw => ?_⟩
      rcases hw with ⟨rfl, rfl, rfl⟩ | ⟨rfl, rfl, rfl⟩
      · refine Or.inr ⟨⟨at_a _, by simp⟩, fun H' => H' = upd (upd H a (HO.frz od (HO.dK [(Sum.inr kk, v)]))) D (HO.lst [v]), fun H' q => ⟨0, by omega, Or.inr ⟨rfl, rfl, q⟩⟩, fun x H' y => ?_⟩
        obtain ⟨rfl, k0, v0, e0, rfl⟩ := y
        simp at e0
        obtain ⟨rfl, rfl⟩ := e0
        refine ⟨wipe1 _ _ _, ?_⟩
        simp only [tYes, wipe, List.foldl, tSeq, tIfS, tNext, tRet, tRetN, tAsg, tDrop, tPar, tCons, tNil, tCB, tVar, tC, tOp, rI, rI0, rU, tTest, tB, tTup, tLst, gName, tIf, tAnd, tOr, tNot, tAndV, tOrV, tNotV, tUn, tCall, tChain, tSl, tNoPart, tPart, tBM, tBM0, tDGet, sDPut, rIxT, rIxL, rMulK, rLenK, rLstK, tTruK, gTup, gCons, gNil, rEq, rNe, scal, tNever, rMulK, rGcd, L2.start, List.map, List.length, List.replicate, List.cons_append, List.nil_append, List.append_nil, List.set, List.set_cons_zero, List.set_cons_succ, List.getElem?_cons_succ, List.getElem?_cons_zero, Option.some.injEq, List.cons.injEq, V.int.injEq, V.str.injEq, V.bl.injEq, V.ref.injEq, and_true, true_and, exists_eq_left, exists_eq_left', exists_eq_right, exists_eq_right', exists_eq, exists_and_left, exists_and_right, and_assoc, exists_false, false_and, and_false, or_false, false_or, reduceCtorEq, Nat.reduceAdd, Nat.reduceSub, List.append_assoc, eq_self, if_true, if_false, Bool.false_eq_true, decide_eq_true_eq, List.length_cons, List.length_nil]
        refine ⟨v, .inl ⟨_, .inr kk, .inr ⟨od, at_a _⟩, rfl, by simp [valV]⟩, [], upd_same, by rw [sizeLine_eq]; simp, ?_⟩
        rw [upd_upd]; rfl
      · refine Or.inl ⟨⟨at_a _, by simp⟩, at_a _, k D [v] _ (fun b o q _ => ?_) hD0 ?_ (.cons (h.keep2 fun b o q r => ⟨q.1, ?_⟩) .nil)⟩
        · have nbD : b ≠ D := ne_of_none q hD0
          by_cases nba : b = a
          · subst nba; rw [e] at q; cases q; exact upd_same
          · rw [upd_ne nba, upd_ne nbD, upd_ne nba]; exact q
        · rw [upd_ne nda]; exact upd_same
        · rw [upd_ne q.2, upd_ne (ne_of_none r hD0), upd_ne q.2]; exact r
theorem ok_put_together (W : Ds K mg) : FnOk P w K mg base CX0 1 W.f_put_together W.fd_put_together P_put_together sp_put := by
  obtain ⟨sl, st, sd, tl, dl, dt⟩ := kit_table K
  have ld : PySem.W.kitOne K (.type "list") (.type "dict") = some false := kit_no K (by decide) (by kernel_rfl)
  have td : PySem.W.kitOne K (.type "tuple") (.type "dict") = some false := kit_no K (by decide) (by kernel_rfl)
  have lt : PySem.W.kitOne K (.type "list") (.type "tuple") = some false := kit_no K (by decide) (by kernel_rfl)
  have nd := sc_put_together.nd
  refine W.D_put_together.F.ok sc_put_together (fun vs H Q E h => ?len) (fun cdv A outer s H vs Q E hr h => ?body)
  case len =>
    obtain ⟨S, T, n, v, d, p, xs, rfl, _⟩ := h
    rfl
  case body =>
    obtain ⟨S, T, n, v, d, p, xs, rfl, tr, hp, hT, tx, k⟩ := h
    have hu := hu_of hr
    refine ⟨_, (pss_cons (ps_if (pt_val (pe_callB (c_isi K) (by rfl) W.T.b_isinstance (by decide +kernel) (pa_cons (pv 0) (pa_cons (pe_bltn (v := .ty "dict") (u := .type "dict") (by rfl) W.T.b_dict (by decide +kernel) (by rfl)) pa_nil))))
        (pss_cons (ps_set (i := 2) nd rfl (by first | exact Or.inl rfl | exact Or.inr rfl) (pe_callTy (call_list_dK rfl) (by rfl) W.T.b_list (by decide +kernel) (pa_cons (pv 0) pa_nil)))
        (pss_one (ps_ret (pe_dc (own := [("at", 3)]) rfl nd (pi_range1 rfl W.T.b_range (pa_cons (pe_callB (c_len K) (by rfl) W.T.b_len (by decide +kernel) (pa_cons (pv 1) pa_nil)) pa_nil)) (blkOk_by (N := N_put_together) (sc := defScope s_put_together) (by decide +kernel)) (fun _ _ _ _ _ => (pg_name (i := 3) nd rfl (by first | exact Or.inl rfl | exact Or.inr rfl))) (fun _ _ _ _ _ => pts_nil) (fun _ _ _ _ _ => (pe_ix (k_ixL K) (pv 2) (pv 3) (fun _ _ => rfl))) (fun _ _ _ _ _ => (pe_ix (k_ixL K) (pv 1) (pv 3) (fun _ _ => rfl))))))) pss_nil)
      (pss_cons (ps_if (pt_val (pe_callB (c_isi K) (by rfl) W.T.b_isinstance (by decide +kernel) (pa_cons (pv 0) (pa_cons (pe_bltn (v := .ty "tuple") (u := .type "tuple") (by rfl) W.T.b_tuple (by decide +kernel) (by rfl)) pa_nil))))
        (pss_one (ps_ret (pe_callTy (c_tuple K) (by rfl) W.T.b_tuple (by decide +kernel) (pa_cons (pv 1) pa_nil)))) pss_nil)
      (pss_one (ps_ret (pe_ifExp (pt_val (pe_callB (c_isi K) (by rfl) W.T.b_isinstance (by decide +kernel) (pa_cons (pv 0) (pa_cons (pe_bltn (v := .ty "list") (u := .type "list") (by rfl) W.T.b_list (by decide +kernel) (by rfl)) pa_nil)))) (pv 1) (pv 0)))))), ?_⟩
    simp only [rListD, tSeq, tIfS, tNext, tRet, tRetN, tAsg, tDrop, tPar, tCons, tNil, tCB, tVar, tC, tOp, rI, rI0, rU, tTest, tB, tTup, tLst, gName, tIf, tAnd, tOr, tNot, tAndV, tOrV, tNotV, tUn, tCall, tChain, tSl, tNoPart, tPart, tBM, tBM0, tDGet, sDPut, rIxT, rIxL, rMulK, rLenK, rLstK, tTruK, gTup, gCons, gNil, rEq, rNe, scal, tNever, rMulK, rGcd, L2.start, List.map, List.length, List.replicate, List.cons_append, List.nil_append, List.append_nil, List.set, List.set_cons_zero, List.set_cons_succ, List.getElem?_cons_succ, List.getElem?_cons_zero, Option.some.injEq, List.cons.injEq, V.int.injEq, V.str.injEq, V.bl.injEq, V.ref.injEq, and_true, true_and, exists_eq_left, exists_eq_left', exists_eq_right, exists_eq_right', exists_eq, exists_and_left, exists_and_right, and_assoc, exists_false, false_and, and_false, or_false, false_or, reduceCtorEq, Nat.reduceAdd, Nat.reduceSub, List.append_assoc, eq_self, if_true, if_false, Bool.false_eq_true, decide_eq_true_eq, List.length_cons, List.length_nil]
    cases tr with
    | int i =>
      refine ⟨_, _, _, _, false, rfl, .ty _, .base (.int i), int_dict K, _, rfl, ?_⟩
      rw [if_neg (by simp)]
      refine ⟨_, _, _, _, false, rfl, .ty _, .base (.int i), int_tuple K, _, rfl, ?_⟩
      rw [if_neg (by simp)]
      refine ⟨_, _, _, _, false, rfl, .ty _, .base (.int i), int_list K, _, rfl, ?_⟩
      rw [if_neg (by simp)]
      exact k _ _ (Kp.refl _) (.int i)
    | str x =>
      refine ⟨_, _, _, _, false, rfl, .ty _, .base (.str x), sd, _, rfl, ?_⟩
      rw [if_neg (by simp)]
      refine ⟨_, _, _, _, false, rfl, .ty _, .base (.str x), st, _, rfl, ?_⟩
      rw [if_neg (by simp)]
      refine ⟨_, _, _, _, false, rfl, .ty _, .base (.str x), sl, _, rfl, ?_⟩
      rw [if_neg (by simp)]
      exact k _ _ (Kp.refl _) (.str x)
    | @lst _ n a vs ds sa e z h =>
      refine ⟨_, _, _, _, false, rfl, .ty _, .base (.lst e), ld, _, rfl, ?_⟩
      rw [if_neg (by simp)]
      refine ⟨_, _, _, _, false, rfl, .ty _, .base (.lst e), lt, _, rfl, ?_⟩
      rw [if_neg (by simp)]
      refine ⟨_, _, _, _, true, rfl, .ty _, .base (.lst e), kitOne_same K "list", _, rfl, ?_⟩
      rw [if_pos rfl]
      have ln : xs.length = vs.length := tx.len.trans h.len.symm
      exact k _ _ (Kp.refl _) (.lst (.inr (.inl rfl)) hp (by omega) (tx.keep2 fun b o q r => ⟨.inl q, r⟩))
    | @tup _ n a vs ds sa e z h =>
      refine ⟨_, _, _, _, false, rfl, .ty _, .base (.tup e), td, _, rfl, ?_⟩
      rw [if_neg (by simp)]
      refine ⟨_, _, _, _, true, rfl, .ty _, .base (.tup e), kitOne_same K "tuple", _, rfl, ?_⟩
      rw [if_pos rfl]
      have ln : xs.length = vs.length := tx.len.trans h.len.symm
      refine ⟨p, xs, rfl, Or.inl ⟨sqL_mk hp, fun l hl => k _ _ (Kp.new hl) (.tup (.inr (.inr hl)) upd_same (by omega) (tx.keep2 fun b o q r => ⟨.inl q, kp0 (Kp.new hl) r⟩))⟩⟩
    | @dct _ n a kk v d sa e h =>
      refine ⟨_, _, _, _, true, rfl, .ty _, .base (.dK e), kitOne_same K "dict", _, rfl, ?_⟩
      rw [if_pos rfl]
      obtain ⟨x0, rfl, tx0⟩ : ∃ x0, xs = [x0] ∧ TrI H T n x0 d := by
        cases tx with
        | cons h1 t1 =>
          cases t1 with
          | nil => exact ⟨_, rfl, h1⟩
      refine ⟨a, rfl, _, e, fun q hq => ?_⟩
      have hp1 : upd H q (HO.lst (List.map (fun kv : Key × V => kV kv.fst) [(Sum.inr kk, v)])) p = some (.lst [x0]) := by rw [upd_ne (ne_of_none hp hq)]; exact hp
      unfold tDc iRng1
      simp only [tSeq, tIfS, tNext, tRet, tRetN, tAsg, tDrop, tPar, tCons, tNil, tCB, tVar, tC, tOp, rI, rI0, rU, tTest, tB, tTup, tLst, gName, tIf, tAnd, tOr, tNot, tAndV, tOrV, tNotV, tUn, tCall, tChain, tSl, tNoPart, tPart, tBM, tBM0, tDGet, sDPut, rIxT, rIxL, rMulK, rLenK, rLstK, tTruK, gTup, gCons, gNil, rEq, rNe, scal, tNever, rMulK, rGcd, L2.start, List.map, List.length, List.replicate, List.cons_append, List.nil_append, List.append_nil, List.set, List.set_cons_zero, List.set_cons_succ, List.getElem?_cons_succ, List.getElem?_cons_zero, Option.some.injEq, List.cons.injEq, V.int.injEq, V.str.injEq, V.bl.injEq, V.ref.injEq, and_true, true_and, exists_eq_left, exists_eq_left', exists_eq_right, exists_eq_right', exists_eq, exists_and_left, exists_and_right, and_assoc, exists_false, false_and, and_false, or_false, false_or, reduceCtorEq, Nat.reduceAdd, Nat.reduceSub, List.append_assoc, eq_self, if_true, if_false, Bool.false_eq_true, decide_eq_true_eq, List.length_cons, List.length_nil]
      refine ⟨[x0], Or.inl (sqL_mk hp1), by simp, by simp, fun D hD => ?_⟩
      have nDq : D ≠ q := fun y => by subst y; rw [upd_same] at hD; cases hD
      have hD0 : H D = none := by rw [upd_ne nDq] at hD; exact hD
      have npD : p ≠ D := ne_of_none hp hD0
      have npq : p ≠ q := ne_of_none hp hq
      have at_q : ∀ o, upd (upd H q (HO.lst [kV (Sum.inr kk)])) D o q = some (.lst [kV (Sum.inr kk)]) := fun o => by rw [upd_ne (Ne.symm nDq)]; exact upd_same
      have at_p : ∀ o, upd (upd H q (HO.lst [kV (Sum.inr kk)])) D o p = some (.lst [x0]) := fun o => by rw [upd_ne npD, upd_ne npq]; exact hp
      refine ⟨fun i m H' => (i = 0 ∧ m = 1 ∧ H' = upd (upd H q (HO.lst [kV (Sum.inr kk)])) D (HO.dK [])) ∨
        (i = 1 ∧ m = 0 ∧ H' = upd (upd H q (HO.lst [kV (Sum.inr kk)])) D (HO.dK [(Sum.inr kk, x0)])), ⟨1, Or.inl ⟨rfl, rfl, rfl⟩⟩, fun i m H' hw => ?_⟩
      rcases hw with ⟨rfl, rfl, rfl⟩ | ⟨rfl, rfl, rfl⟩
      · refine Or.inr ⟨by simp [Itr], fun H' => H' = upd (upd H q (HO.lst [kV (Sum.inr kk)])) D (HO.dK [(Sum.inr kk, x0)]), fun H' z => ⟨0, by omega, Or.inr ⟨rfl, rfl, z⟩⟩, fun x H' y => ?_⟩
        obtain ⟨rfl, rfl⟩ := y
        refine ⟨wipe1 _ _ _, ?_⟩
        simp only [tYes, wipe, List.foldl, tSeq, tIfS, tNext, tRet, tRetN, tAsg, tDrop, tPar, tCons, tNil, tCB, tVar, tC, tOp, rI, rI0, rU, tTest, tB, tTup, tLst, gName, tIf, tAnd, tOr, tNot, tAndV, tOrV, tNotV, tUn, tCall, tChain, tSl, tNoPart, tPart, tBM, tBM0, tDGet, sDPut, rIxT, rIxL, rMulK, rLenK, rLstK, tTruK, gTup, gCons, gNil, rEq, rNe, scal, tNever, rMulK, rGcd, L2.start, List.map, List.length, List.replicate, List.cons_append, List.nil_append, List.append_nil, List.set, List.set_cons_zero, List.set_cons_succ, List.getElem?_cons_succ, List.getElem?_cons_zero, Option.some.injEq, List.cons.injEq, V.int.injEq, V.str.injEq, V.bl.injEq, V.ref.injEq, and_true, true_and, exists_eq_left, exists_eq_left', exists_eq_right, exists_eq_right', exists_eq, exists_and_left, exists_and_right, and_assoc, exists_false, false_and, and_false, or_false, false_or, reduceCtorEq, Nat.reduceAdd, Nat.reduceSub, List.append_assoc, eq_self, if_true, if_false, Bool.false_eq_true, decide_eq_true_eq, List.length_cons, List.length_nil]
        refine ⟨[kV (.inr kk)], sqL_mk (at_q _), kV (.inr kk), rfl, [x0], sqL_mk (at_p _), x0, rfl, [], .inr kk, rfl, upd_same, by rw [sizeLine_eq]; simp, ?_⟩
        rw [upd_upd]; rfl
      · refine Or.inl ⟨by simp [Itr], k _ _ (fun b o z _ => ?_) (.dct (k := kk) (v := x0) (.inr (.inr hD0)) upd_same (tx0.keep2 fun b o z r => ⟨⟨.inl z, ne_of_none r hD0⟩, ?_⟩))⟩
        · rw [upd_ne (ne_of_none z hD0), upd_ne (ne_of_none z hq)]; exact z
        · rw [upd_ne (ne_of_none r hD0), upd_ne (ne_of_none r hq)]; exact r
end
end G
set_option Elab.async false
set_option linter.all false
set_option maxRecDepth 100000
set_option maxHeartbeats 2000000
/-! a stack of frames, pure -/
namespace G
open PySem L2 NdefX
structure Fr where
  t : Addr
  pa : Addr
  fo : Addr
  w : V
  m : Nat
  d : PyData
  xs : List V
  ws : List V
def Old (H0 : Hp) : Addr → Prop := fun b => H0 b ≠ none
def Own (H0 : Hp) (M : Addr → Prop) : Addr → Prop := fun b => H0 b = none ∧ ¬ M b
structure FrOk (H0 : Hp) (M : Addr → Prop) (H : Hp) (f : Fr) : Prop where
  t : H f.t = some (.tup [f.w, .ref f.pa, .ref f.fo])
  nt : ¬ M f.t
  pa : H f.pa = some (.lst f.xs)
  npa : ¬ M f.pa
  fo : H f.fo = some (.lst f.ws)
  mo : M f.fo
  tr : Tr (Old H0) H f.m f.w f.d
  kx : TrAll (Old H0) H (f.m - 1) f.xs (kids f.d)
  le : f.ws.length ≤ f.xs.length
  kw : TrAll (Own H0 M) H (f.m - 1) f.ws ((kids f.d).take f.ws.length)
theorem FrOk.keep {H0 H H' : Hp} {M M' : Addr → Prop} {f : Fr} (h : FrOk H0 M H f) (mo : ∀ b, M b → H0 b = none) (st : ∀ b o, ¬ M b → H b = some o → H' b = some o) (ef : H' f.fo = some (.lst f.ws)) (mf : M' f.fo) (mm : ∀ b, M' b → M b ∨ H b = none) : FrOk H0 M' H' f := by
  have out : ∀ b o, ¬ M b → H b = some o → ¬ M' b := fun b o nb e mb => by
    rcases mm b mb with z | z
    · exact nb z
    · rw [e] at z; cases z
  refine ⟨st _ _ h.nt h.t, out _ _ h.nt h.t, st _ _ h.npa h.pa, out _ _ h.npa h.pa, ef, mf, h.tr.keep2 fun b o q r => ⟨q, st b o (fun z => q (mo b z)) r⟩, h.kx.keep2 fun b o q r => ⟨q, st b o (fun z => q (mo b z)) r⟩, h.le, h.kw.keep2 fun b o q r => ⟨⟨q.1, out b o q.2 r⟩, st b o q.2 r⟩⟩
inductive Stk (OK : Fr → Prop) (n : Nat) (d : PyData) : List Fr → Prop
  | one {f : Fr} : OK f → f.m = n → f.d = d → Stk OK n d [f]
  | cons {f g : Fr} {fs : List Fr} : OK f → (kids g.d)[g.ws.length]? = some f.d → g.m = f.m + 1 → Stk OK n d (g :: fs) → Stk OK n d (f :: g :: fs)
theorem Stk.imp {OK OK' : Fr → Prop} {n : Nat} {d : PyData} : ∀ {fs : List Fr}, Stk OK n d fs → (∀ f ∈ fs, OK f → OK' f) → Stk OK' n d fs
  | _, .one h e1 e2, k => .one (k _ (List.mem_cons_self ..) h) e1 e2
  | _, .cons h e1 e2 s, k => .cons (k _ (List.mem_cons_self ..) h) e1 e2 (s.imp fun f q => k f (List.mem_cons_of_mem _ q))
theorem Stk.top {OK : Fr → Prop} {n : Nat} {d : PyData} {f : Fr} {fs : List Fr} : Stk OK n d (f :: fs) → OK f
  | .one h _ _ => h
  | .cons h _ _ _ => h
theorem Stk.deep {OK : Fr → Prop} {n : Nat} {d : PyData} : ∀ {fs : List Fr} {f : Fr}, Stk OK n d (f :: fs) → fs.length + f.m = n
  | _, _, .one _ e _ => by simpa using e
  | _, _, .cons _ _ e s => by have := s.deep; simp; omega
def Mu (F : Addr) (fs : List Fr) : Addr → Prop := fun b => b = F ∨ ∃ f ∈ fs, b = f.fo
structure Cp (H0 : Hp) (n : Nat) (d : PyData) (F : Addr) (fs : List Fr) (H : Hp) : Prop where
  kp : Kp M0 H0 H
  nF : H0 F = none
  atF : H F = some (.lst (fs.map fun f => V.ref f.t).reverse)
  nd : (fs.map Fr.fo).Nodup
  fo : ∀ f ∈ fs, f.fo ≠ F ∧ H0 f.fo = none
  st : Stk (FrOk H0 (Mu F fs) H) n d fs
theorem Cp.mo {H0 H : Hp} {n : Nat} {d : PyData} {F : Addr} {fs : List Fr} (c : Cp H0 n d F fs H) : ∀ b, Mu F fs b → H0 b = none := fun b h => by
  rcases h with rfl | ⟨f, hf, rfl⟩
  · exact c.nF
  · exact (c.fo f hf).2
theorem Cp.all {H0 H : Hp} {n : Nat} {d : PyData} {F : Addr} {fs : List Fr} (c : Cp H0 n d F fs H) : ∀ f ∈ fs, FrOk H0 (Mu F fs) H f := by
  have : ∀ {gs : List Fr}, Stk (FrOk H0 (Mu F fs) H) n d gs → ∀ f ∈ gs, FrOk H0 (Mu F fs) H f := by
    intro gs s
    induction s with
    | one h _ _ => intro f hf; rw [List.mem_singleton.mp hf]; exact h
    | cons h _ _ _ ih => intro f hf; rcases List.mem_cons.mp hf with rfl | hf
                         · exact h
                         · exact ih f hf
  exact this c.st
theorem Cp.push {H0 H H1 : Hp} {n k : Nat} {d dk : PyData} {F p fo t : Addr} {f : Fr} {fs : List Fr} {x : V} {ys : List V} (c : Cp H0 n d F (f :: fs) H) (ek : (kids f.d)[f.ws.length]? = some dk) (em : f.m = k + 1) (tx : Tr (Old H0) H k x dk)
    (k1 : Kp M0 H H1) (hp : H p = none) (ep : H1 p = some (.lst ys)) (ky : TrAll (Old H0) H1 (k - 1) ys (kids dk)) (hfo : H1 fo = none) (ht : upd H1 fo (.lst []) t = none) :
    Cp H0 n d F (⟨t, p, fo, x, k, dk, ys, []⟩ :: f :: fs) (upd (upd (upd H1 fo (.lst [])) t (.tup [x, .ref p, .ref fo])) F (.lst (((f :: fs).map fun f => V.ref f.t).reverse ++ [.ref t]))) := by
  have hF1 := kp0 k1 c.atF
  have nfoF : fo ≠ F := fun y => by subst y; rw [hF1] at hfo; cases hfo
  have ntfo : t ≠ fo := fun y => by subst y; rw [upd_same] at ht; cases ht
  have ht1 : H1 t = none := by rw [upd_ne ntfo] at ht; exact ht
  have ntF : t ≠ F := fun y => by subst y; rw [hF1] at ht1; cases ht1
  have npF : p ≠ F := fun y => by subst y; rw [c.atF] at hp; cases hp
  have npfo : p ≠ fo := ne_of_none ep hfo
  have npt : p ≠ t := ne_of_none ep ht1
  have st : ∀ b o, b ≠ F → H1 b = some o → (upd (upd (upd H1 fo (.lst [])) t (.tup [x, .ref p, .ref fo])) F (.lst (((f :: fs).map fun f => V.ref f.t).reverse ++ [.ref t]))) b = some o := fun b o nb e => by
    rw [upd_ne nb, upd_ne (ne_of_none e ht1), upd_ne (ne_of_none e hfo)]; exact e
  have frs := c.all
  have h0 : ∀ b o, H0 b = some o → b ≠ F ∧ H1 b = some o := fun b o e => ⟨(fun y => by subst y; rw [c.nF] at e; cases e), kp0 k1 (kp0 c.kp e)⟩
  have back : ∀ b, H1 b = none → H b = none := fun b e => none0 k1 e
  have newM : ∀ b, Mu F (⟨t, p, fo, x, k, dk, ys, []⟩ :: f :: fs) b → Mu F (f :: fs) b ∨ H b = none := fun b h => by
    rcases h with rfl | ⟨g, hg, rfl⟩
    · exact Or.inl (Or.inl rfl)
    · rcases List.mem_cons.mp hg with rfl | hg
      · exact Or.inr (back _ hfo)
      · exact Or.inl (Or.inr ⟨g, hg, rfl⟩)
  have offM : ∀ b, H b = none → b ≠ fo → ¬ Mu F (⟨t, p, fo, x, k, dk, ys, []⟩ :: f :: fs) b := fun b e nb h => by
    rcases h with rfl | ⟨g, hg, rfl⟩
    · rw [c.atF] at e; cases e
    · rcases List.mem_cons.mp hg with rfl | hg
      · exact nb rfl
      · rw [(frs g hg).fo] at e; cases e
  refine ⟨fun b o e _ => st b o (h0 b o e).1 (h0 b o e).2, c.nF, ?_, ?_, ?_, .cons ?_ ek (by simpa using em) (c.st.imp fun g hg h => ?_)⟩
  · rw [upd_same]; simp
  · rw [List.map_cons]
    refine List.nodup_cons.mpr ⟨fun h => ?_, c.nd⟩
    obtain ⟨g, hg, eg⟩ := List.mem_map.mp h
    have := kp0 k1 (frs g hg).fo
    rw [eg] at this
    change H1 fo = _ at this
    rw [hfo] at this; cases this
  · intro g hg
    rcases List.mem_cons.mp hg with rfl | hg
    · exact ⟨nfoF, none0 c.kp (back _ hfo)⟩
    · exact c.fo g hg
  · refine ⟨?_, offM _ (back _ ht1) ntfo, ?_, offM _ hp npfo, ?_, Or.inr ⟨_, List.mem_cons_self .., rfl⟩, ?_, ?_, Nat.zero_le _, .nil⟩
    · show upd _ F _ t = _
      rw [upd_ne ntF]; exact upd_same
    · exact st _ _ npF ep
    · show upd _ F _ fo = _
      rw [upd_ne nfoF, upd_ne (Ne.symm ntfo)]; exact upd_same
    · refine tx.keep2 fun b o q r => ⟨q, st b o (fun y => ?_) (kp0 k1 r)⟩
      subst y; exact q c.nF
    · refine ky.keep2 fun b o q r => ⟨q, st b o (fun y => ?_) r⟩
      subst y; exact q c.nF
  · refine h.keep c.mo (fun b o nb e => st b o (fun y => nb (Or.inl y)) (kp0 k1 e)) (st _ _ (c.fo g hg).1 (kp0 k1 h.fo)) (Or.inr ⟨g, List.mem_cons_of_mem _ hg, rfl⟩) newM
theorem Cp.pop_one {H0 H H2 : Hp} {n : Nat} {d : PyData} {F : Addr} {f : Fr} {v' : V} (c : Cp H0 n d F [f] H) (X : HO) (k2 : Kp M0 (upd H F X) H2) (tv : Tr (fun b => Own H0 (Mu F [f]) b ∨ b = f.fo ∨ upd H F X b = none) H2 f.m v' f.d) :
    Kp M0 H0 H2 ∧ Tr (Fresh H0) H2 n v' d := by
  have kF : ∀ b o, H0 b = some o → upd H F X b = some o := fun b o e => by rw [upd_ne (fun y => by subst y; rw [c.nF] at e; cases e)]; exact kp0 c.kp e
  refine ⟨fun b o e _ => kp0 k2 (kF b o e), ?_⟩
  have e12 : f.m = n ∧ f.d = d := by
    cases c.st with
    | one _ e1 e2 => exact ⟨e1, e2⟩
  rw [← e12.1, ← e12.2]
  refine tv.keep2 fun b o q r => ⟨?_, r⟩
  rcases q with q | q | q
  · exact q.1
  · rw [q]; exact (c.fo f (List.mem_cons_self ..)).2
  · show H0 b = none
    cases e : H0 b with
    | none => rfl
    | some o' => rw [kF b o' e] at q; cases q
theorem Cp.pop {H0 H H2 : Hp} {n : Nat} {d : PyData} {F : Addr} {f g : Fr} {fs : List Fr} {v' : V} (c : Cp H0 n d F (f :: g :: fs) H) (k2 : Kp M0 (upd H F (.lst ((g :: fs).map fun f => V.ref f.t).reverse)) H2)
    (tv : Tr (fun b => Own H0 (Mu F (f :: g :: fs)) b ∨ b = f.fo ∨ upd H F (.lst ((g :: fs).map fun f => V.ref f.t).reverse) b = none) H2 f.m v' f.d) :
    H2 g.fo = some (.lst g.ws) ∧ Cp H0 n d F ({ g with ws := g.ws ++ [v'] } :: fs) (upd H2 g.fo (.lst (g.ws ++ [v']))) := by
  have frs := c.all
  have hg := frs g (List.mem_cons_of_mem _ (List.mem_cons_self ..))
  have hf := frs f (List.mem_cons_self ..)
  have ngF := (c.fo g (List.mem_cons_of_mem _ (List.mem_cons_self ..))).1
  have st1 : ∀ b o, b ≠ F → H b = some o → H2 b = some o := fun b o nb e => kp0 k2 (by rw [upd_ne nb]; exact e)
  have eg := st1 _ _ ngF hg.fo
  have nd := c.nd
  simp only [List.map_cons, List.nodup_cons] at nd
  have nfg : f.fo ≠ g.fo := fun y => nd.1 (by rw [y]; exact List.mem_cons_self ..)
  have eF : H2 F = some (.lst ((g :: fs).map fun f => V.ref f.t).reverse) := kp0 k2 upd_same
  have hlt : g.ws.length < (kids g.d).length := by
    cases c.st with
    | cons _ ek _ _ => exact (List.getElem?_eq_some_iff.mp ek).1
  have ekm : (kids g.d)[g.ws.length]? = some f.d ∧ g.m = f.m + 1 := by
    cases c.st with
    | cons _ ek em _ => exact ⟨ek, em⟩
  refine ⟨eg, fun b o e _ => ?_, c.nF, ?_, nd.2 |> fun z => by simpa using z, ?_, ?_⟩
  · have nb : b ≠ F := fun y => by subst y; rw [c.nF] at e; cases e
    have nb2 : b ≠ g.fo := fun y => by subst y; rw [(c.fo g (List.mem_cons_of_mem _ (List.mem_cons_self ..))).2] at e; cases e
    rw [upd_ne nb2]; exact st1 b o nb (kp0 c.kp e)
  · rw [upd_ne (Ne.symm ngF), eF]; simp
  · intro h hh
    rcases List.mem_cons.mp hh with rfl | hh
    · exact c.fo g (List.mem_cons_of_mem _ (List.mem_cons_self ..))
    · exact c.fo h (List.mem_cons_of_mem _ (List.mem_cons_of_mem _ hh))
  have MM : ∀ b, Mu F ({ g with ws := g.ws ++ [v'] } :: fs) b → Mu F (f :: g :: fs) b ∧ b ≠ f.fo := fun b h => by
    rcases h with rfl | ⟨h, hh, rfl⟩
    · exact ⟨Or.inl rfl, fun y => (c.fo f (List.mem_cons_self ..)).1 y.symm⟩
    · rcases List.mem_cons.mp hh with rfl | hh
      · exact ⟨Or.inr ⟨g, List.mem_cons_of_mem _ (List.mem_cons_self ..), rfl⟩, fun y => nfg y.symm⟩
      · exact ⟨Or.inr ⟨h, List.mem_cons_of_mem _ (List.mem_cons_of_mem _ hh), rfl⟩, fun y => nd.1 (by rw [← y]; exact List.mem_cons_of_mem _ (List.mem_map_of_mem hh))⟩
  have mo2 : ∀ b, Mu F (f :: g :: fs) b → b ≠ F → H b ≠ none := fun b h nb => by
    rcases h with rfl | ⟨h, hh, rfl⟩
    · exact absurd rfl nb
    · rw [(frs h hh).fo]; simp
  have st2 : ∀ b o, ¬ Mu F (f :: g :: fs) b → H b = some o → upd H2 g.fo (.lst (g.ws ++ [v'])) b = some o := fun b o nb e => by
    rw [upd_ne (fun y => nb (Or.inr ⟨g, List.mem_cons_of_mem _ (List.mem_cons_self ..), y⟩))]
    exact st1 b o (fun y => nb (Or.inl y)) e
  have keep : ∀ h ∈ fs, FrOk H0 (Mu F (f :: g :: fs)) H h → FrOk H0 (Mu F ({ g with ws := g.ws ++ [v'] } :: fs)) (upd H2 g.fo (.lst (g.ws ++ [v']))) h := fun h hh q => by
    have ne : h.fo ≠ g.fo := fun y => nd.2.1 (by rw [← y]; exact List.mem_map_of_mem hh)
    refine q.keep c.mo st2 ?_ (Or.inr ⟨h, List.mem_cons_of_mem _ hh, rfl⟩) fun b z => Or.inl (MM b z).1
    rw [upd_ne ne]; exact st1 _ _ (c.fo h (List.mem_cons_of_mem _ (List.mem_cons_of_mem _ hh))).1 q.fo
  have top : FrOk H0 (Mu F ({ g with ws := g.ws ++ [v'] } :: fs)) (upd H2 g.fo (.lst (g.ws ++ [v']))) { g with ws := g.ws ++ [v'] } := by
    have lx := hg.kx.len
    refine ⟨st2 _ _ hg.nt hg.t, fun z => hg.nt (MM _ z).1, st2 _ _ hg.npa hg.pa, fun z => hg.npa (MM _ z).1, upd_same, Or.inr ⟨_, List.mem_cons_self .., rfl⟩, ?_, ?_, ?_, ?_⟩
    · exact hg.tr.keep2 fun b o q r => ⟨q, st2 b o (fun z => q (c.mo b z)) r⟩
    · exact hg.kx.keep2 fun b o q r => ⟨q, st2 b o (fun z => q (c.mo b z)) r⟩
    · simp; omega
    · show TrAll _ _ (g.m - 1) (g.ws ++ [v']) ((kids g.d).take (g.ws ++ [v']).length)
      rw [List.length_append, List.length_singleton, take_snoc ekm.1]
      refine TrL.app (hg.kw.keep2 fun b o q r => ⟨⟨q.1, fun z => q.2 (MM b z).1⟩, st2 b o q.2 r⟩) (.cons ?_ .nil)
      rw [show g.m - 1 = f.m by omega]
      refine tv.keep2 fun b o q r => ?_
      have off : H0 b = none ∧ (¬ Mu F (f :: g :: fs) b ∨ b = f.fo) := by
        rcases q with q | q | q
        · exact ⟨q.1, Or.inl q.2⟩
        · exact ⟨by rw [q]; exact (c.fo f (List.mem_cons_self ..)).2, Or.inr q⟩
        · have nbF : b ≠ F := fun y => by subst y; rw [upd_same] at q; cases q
          rw [upd_ne nbF] at q
          exact ⟨none0 c.kp q, Or.inl fun z => mo2 b z nbF q⟩
      have nM : ¬ Mu F ({ g with ws := g.ws ++ [v'] } :: fs) b := fun z => by
        rcases off.2 with y | y
        · exact y (MM b z).1
        · exact (MM b z).2 y
      refine ⟨⟨off.1, nM⟩, ?_⟩
      rw [upd_ne (fun y => nM (Or.inr ⟨_, List.mem_cons_self .., y⟩))]; exact r
  cases c.st with
  | cons _ _ _ s =>
    cases s with
    | one _ e1 e2 => exact .one top e1 e2
    | cons h ek em s2 => exact .cons top ek em (s2.imp fun h hh q => keep h hh q)
end G
set_option Elab.async false
set_option linter.all false
set_option maxRecDepth 100000
set_option maxHeartbeats 2000000
namespace G
open PySem L2 NdefX
noncomputable def wgt (ds : List PyData) : Nat := (ds.map fun d => 2 * sizeOf d).sum
theorem wgt_le (ds : List PyData) : wgt ds + 2 ≤ 2 * sizeOf ds := by
  induction ds with
  | nil => simp [wgt]
  | cons d ds ih =>
    have : sizeOf (d :: ds) = 1 + sizeOf d + sizeOf ds := rfl
    simp [wgt] at ih ⊢
    omega
theorem wgt_kids (d : PyData) : wgt (kids d) + 1 < 2 * sizeOf d := by
  have pos : ∀ d : PyData, 0 < sizeOf d := fun d => by cases d <;> simp <;> omega
  cases d with
  | list ds => have := wgt_le ds; have e := PyData.list.sizeOf_spec ds; simp only [kids]; omega
  | tuple ds => have := wgt_le ds; have e := PyData.tuple.sizeOf_spec ds; simp only [kids]; omega
  | dict ps =>
    match ps with
    | [] => simp [kids, wgt] <;> omega
    | [(k, d)] => simp [kids, wgt] <;> omega
    | _ :: _ :: _ => simp [kids, wgt] <;> omega
  | _ => simp [kids, wgt] <;> omega
theorem wgt_drop {ds : List PyData} {i : Nat} {d : PyData} (e : ds[i]? = some d) : wgt (ds.drop i) = 2 * sizeOf d + wgt (ds.drop (i + 1)) := by
  obtain ⟨h, rfl⟩ := List.getElem?_eq_some_iff.mp e
  show ((ds.drop i).map fun d => 2 * sizeOf d).sum = _
  rw [List.drop_eq_getElem_cons h, List.map_cons, List.sum_cons]
  rfl
noncomputable def rest : List Fr → Nat
  | [] => 0
  | f :: fs => 1 + wgt ((kids f.d).drop (f.ws.length + 1)) + rest fs
noncomputable def meas : List Fr → Nat
  | [] => 0
  | f :: fs => 1 + wgt ((kids f.d).drop f.ws.length) + rest fs
theorem meas_push {f : Fr} {fs : List Fr} {t p fo : Addr} {x : V} {k : Nat} {dk : PyData} {ys : List V} (e : (kids f.d)[f.ws.length]? = some dk) : meas (⟨t, p, fo, x, k, dk, ys, []⟩ :: f :: fs) < meas (f :: fs) := by
  have := wgt_kids dk
  simp only [meas, rest, wgt_drop e, List.length_nil, List.drop_zero]
  omega
theorem meas_pop {f g : Fr} {fs : List Fr} {v : V} : meas ({ g with ws := g.ws ++ [v] } :: fs) < meas (f :: g :: fs) := by
  simp only [meas, rest, List.length_append, List.length_singleton]
  omega
theorem kids_len {S : Addr → Prop} {H : Hp} {n : Nat} {v : V} {d : PyData} (h : TrI H S n v d) : (kids d).length ≤ 100 := by
  cases h with
  | int i => simp [kids]
  | str x => simp [kids]
  | lst s e z h => simp only [kids]; rw [← h.len]; exact z
  | tup s e z h => simp only [kids]; rw [← h.len]; exact z
  | dct s e h => simp [kids]
theorem kids_dep {S : Addr → Prop} {H : Hp} {n : Nat} {v : V} {d : PyData} (h : TrI H S n v d) (p : 0 < (kids d).length) : ∃ k, n = k + 1 := by
  cases h with
  | int i => simp [kids] at p
  | str x => simp [kids] at p
  | lst s e z h => exact ⟨_, rfl⟩
  | tup s e z h => exact ⟨_, rfl⟩
  | dct s e h => exact ⟨_, rfl⟩
theorem Cp.init {H H1 : Hp} {n : Nat} {d : PyData} {F p fo t : Addr} {x : V} {ys : List V} (tx : Tr (Old H) H n x d)
    (k1 : Kp M0 H H1) (hp : H p = none) (ep : H1 p = some (.lst ys)) (ky : TrAll (Old H) H1 (n - 1) ys (kids d)) (hfo : H1 fo = none) (ht : upd H1 fo (.lst []) t = none) (hF : upd (upd H1 fo (.lst [])) t (.tup [x, .ref p, .ref fo]) F = none) :
    Cp H n d F [⟨t, p, fo, x, n, d, ys, []⟩] (upd (upd (upd H1 fo (.lst [])) t (.tup [x, .ref p, .ref fo])) F (.lst [.ref t])) := by
  have ntfo : t ≠ fo := fun y => by subst y; rw [upd_same] at ht; cases ht
  have ht1 : H1 t = none := by rw [upd_ne ntfo] at ht; exact ht
  have nFt : F ≠ t := fun y => by subst y; rw [upd_same] at hF; cases hF
  have nFfo : F ≠ fo := fun y => by subst y; rw [upd_ne nFt, upd_same] at hF; cases hF
  have hF1 : H1 F = none := by rw [upd_ne nFt, upd_ne nFfo] at hF; exact hF
  have npF : p ≠ F := ne_of_none ep hF1
  have npfo : p ≠ fo := ne_of_none ep hfo
  have npt : p ≠ t := ne_of_none ep ht1
  have st : ∀ b o, H1 b = some o → (upd (upd (upd H1 fo (.lst [])) t (.tup [x, .ref p, .ref fo])) F (.lst [.ref t])) b = some o := fun b o e => by
    rw [upd_ne (ne_of_none e hF1), upd_ne (ne_of_none e ht1), upd_ne (ne_of_none e hfo)]; exact e
  have offM : ∀ b, b ≠ F → b ≠ fo → ¬ Mu F [⟨t, p, fo, x, n, d, ys, []⟩] b := fun b n1 n2 h => by
    rcases h with h | ⟨g, hg, h⟩
    · exact n1 h
    · rw [List.mem_singleton.mp hg] at h; exact n2 h
  refine ⟨fun b o e _ => st b o (kp0 k1 e), none0 k1 hF1, by rw [upd_same]; rfl, by simp, fun g hg => ?_, .one ⟨?_, offM _ (Ne.symm nFt) ntfo, st _ _ ep, offM _ npF npfo, ?_, Or.inr ⟨_, List.mem_cons_self .., rfl⟩, tx.keep2 fun b o q r => ⟨q, st b o (kp0 k1 r)⟩, ky.keep2 fun b o q r => ⟨q, st b o r⟩, Nat.zero_le _, .nil⟩ rfl rfl⟩
  · rw [List.mem_singleton.mp hg]; exact ⟨Ne.symm nFfo, none0 k1 hfo⟩
  · show upd _ F _ t = _
    rw [upd_ne (Ne.symm nFt)]; exact upd_same
  · show upd _ F _ fo = _
    rw [upd_ne (Ne.symm nFfo), upd_ne (Ne.symm ntfo)]; exact upd_same
theorem at_top {f : Fr} {fs : List Fr} : atI ((f :: fs).map fun f => V.ref f.t).reverse (-1) = some (.ref f.t) := by
  have l : ((f :: fs).map fun f => V.ref f.t).reverse = (fs.map fun f => V.ref f.t).reverse ++ [.ref f.t] := by rw [List.map_cons, List.reverse_cons]
  rw [l]
  generalize (fs.map fun f => V.ref f.t).reverse = ys
  unfold atI ixN
  rw [if_neg (by omega), if_pos (by simp; omega)]
  simp only [Option.bind_some]
  rw [show (-1 + ((ys ++ [V.ref f.t]).length : Int)).toNat = ys.length by simp only [List.length_append, List.length_singleton]; omega]
  simp
def sp_cpn (n : Nat) : Sp := fun vs H Q E => n ≤ 100 ∧ sp_cp n vs H Q E
def CpW (H0 : Hp) (n : Nat) (d : PyData) (v0 : V) (m : Nat) (σ : St) (H : Hp) : Prop := ∃ F fs e2 e3 e4 e5 e6, σ = [some v0, some (.ref F), e2, e3, e4, e5, e6] ∧ fs ≠ [] ∧ Cp H0 n d F fs H ∧ m = meas fs
section
variable {P : Program} {w : World} {K : PySem.W.Frag} {mg : Str → Option Value} {base : Heap}
theorem ok_cp (W : Ds K mg) (n : Nat) : FnOk P w K mg base CX0 2 W.f_copied W.fd_copied P_copied (sp_cpn n) := by
  refine W.D_copied.F.ok sc_copied (fun vs H Q E h => ?len) (fun cdv A outer s H vs Q E hr h => ?body)
  case len =>
    obtain ⟨_, S, v, d, rfl, _⟩ := h
    rfl
  case body =>
    obtain ⟨hn, S, v, d, rfl, tr, k⟩ := h
    have nd := sc_copied.nd
    have hu := hu_of hr
    have hu64 := hr.units
    have hu65 := hu65_of hr
    refine ⟨_, (pss_cons (ps_set (i := 1) nd rfl (by first | exact Or.inl rfl | exact Or.inr rfl) (pe_lst (pa_cons (pe_tup (pa_cons (pv 0) (pa_cons (pe_call (ok_parts_in W) (hr.mono (by first | decide | omega)) rfl W.D_parts_in.g W.D_parts_in.F.kp W.D_parts_in.b .nil pass0 (pa_cons (pv 0) pa_nil)) (pa_cons (pe_lst pa_nil) pa_nil)))) pa_nil)))
  (pss_one (ps_while PassesOwn.never (pt_val pe_bl)
     (pss_cons (ps_asg (pe_ix (k_ixL K) (pv 1) (pe_un un_neg pe_int) (fun _ _ => rfl)) (g_tup K (pg_tup (n := 3) rfl (pgs_cons (pg_name (i := 2) nd rfl (by first | exact Or.inl rfl | exact Or.inr rfl)) (pgs_cons (pg_name (i := 3) nd rfl (by first | exact Or.inl rfl | exact Or.inr rfl)) (pgs_cons (pg_name (i := 4) nd rfl (by first | exact Or.inl rfl | exact Or.inr rfl)) pgs_nil))))))
      (pss_one (ps_if (pt_cmpR op_lt (pe_callB (c_len K) (by rfl) W.T.b_len (by decide +kernel) (pa_cons (pv 4) pa_nil)) (pe_callB (c_len K) (by rfl) W.T.b_len (by decide +kernel) (pa_cons (pv 3) pa_nil)) (nomark _))
         (pss_cons (ps_set (i := 5) nd rfl (by first | exact Or.inl rfl | exact Or.inr rfl) (pe_ix (k_ixL K) (pv 3) (pe_callB (c_len K) (by rfl) W.T.b_len (by decide +kernel) (pa_cons (pv 4) pa_nil)) (fun _ _ => rfl)))
          (pss_one (ps_expr (e_bm K (pe_bm PySem.F.plainAttrs_list PySem.F.slot_list_append PySem.F.type_list_append mt_append (pv 1) (pa_cons (pe_tup (pa_cons (pv 5) (pa_cons (pe_call (ok_parts_in W) (hr.mono (by first | decide | omega)) rfl W.D_parts_in.g W.D_parts_in.F.kp W.D_parts_in.b .nil pass0 (pa_cons (pv 5) pa_nil)) (pa_cons (pe_lst pa_nil) pa_nil)))) pa_nil))))))
         (pss_cons (ps_expr (e_bm0 K (pe_bm0 PySem.F.plainAttrs_list PySem.F.slot_list_pop PySem.F.type_list_pop mt_pop (pv 1))))
          (pss_cons (ps_set (i := 6) nd rfl (by first | exact Or.inl rfl | exact Or.inr rfl) (pe_call (ok_put_together W) (hr.mono (by first | decide | omega)) rfl W.D_put_together.g W.D_put_together.F.kp W.D_put_together.b .nil pass0 (pa_cons (pv 2) (pa_cons (pv 4) pa_nil))))
          (pss_cons (ps_if (pt_not (p_truth K (pv 1) (by intro _; rfl)))
             (pss_one (ps_ret (pv 6)))
             pss_nil)
          (pss_one (ps_expr (e_bm K (pe_bm PySem.F.plainAttrs_list PySem.F.slot_list_append PySem.F.type_list_append mt_append (pe_ix (k_ixT K) (pe_ix (k_ixL K) (pv 1) (pe_un un_neg pe_int) (fun _ _ => rfl)) pe_int (fun _ _ => rfl)) (pa_cons (pv 6) pa_nil)))))))))))))), ?_⟩
    simp only [tSeq, tIfS, tNext, tRet, tRetN, tAsg, tDrop, tPar, tCons, tNil, tCB, tVar, tC, tOp, rI, rI0, rU, tTest, tB, tTup, tLst, gName, tIf, tAnd, tOr, tNot, tAndV, tOrV, tNotV, tUn, tCall, tChain, tSl, tNoPart, tPart, tBM, tBM0, tDGet, sDPut, rIxT, rIxL, rMulK, rLenK, rLstK, tTruK, gTup, gCons, gNil, rEq, rNe, scal, tNever, rMulK, rGcd, L2.start, List.map, List.length, List.replicate, List.cons_append, List.nil_append, List.append_nil, List.set, List.set_cons_zero, List.set_cons_succ, List.getElem?_cons_succ, List.getElem?_cons_zero, Option.some.injEq, List.cons.injEq, V.int.injEq, V.str.injEq, V.bl.injEq, V.ref.injEq, and_true, true_and, exists_eq_left, exists_eq_left', exists_eq_right, exists_eq_right', exists_eq, exists_and_left, exists_and_right, and_assoc, exists_false, false_and, and_false, or_false, false_or, reduceCtorEq, Nat.reduceAdd, Nat.reduceSub, List.append_assoc, eq_self, if_true, if_false, Bool.false_eq_true, decide_eq_true_eq, List.length_cons, List.length_nil]
    replace tr : Tr (Old H) H n v d := tr.keep2 fun b o q r => ⟨by show H b ≠ none; rw [r]; simp, r⟩
    refine ⟨Old H, n, v, d, rfl, tr, fun pa xs H1 k1 hpa epa kx => ⟨by omega, fun fo hfo => ⟨by rw [sizeLine_eq]; omega, fun t ht => ⟨by rw [sizeLine_eq]; omega, fun F hF => ?_⟩⟩⟩⟩
    refine ⟨CpW H n d v, ⟨_, F, [⟨t, pa, fo, v, n, d, xs, []⟩], none, none, none, none, none, rfl, by simp, Cp.init tr k1 hpa epa kx hfo ht hF, rfl⟩, fun m σ H2 hw => ?_⟩
    obtain ⟨F, fs, e2, e3, e4, e5, e6, rfl, ne, c, rfl⟩ := hw
    cases fs with
    | nil => exact absurd rfl ne
    | cons f fs =>
    refine ⟨_, rfl, ?_⟩
    show if true = true then _ else _
    rw [if_pos rfl]
    refine ⟨fun σ' H' => ∃ m', m' < meas (f :: fs) ∧ CpW H n d v m' σ' H', fun σ' H' h => h, ?_⟩
    simp only [rU, tSeq, tIfS, tNext, tRet, tRetN, tAsg, tDrop, tPar, tCons, tNil, tCB, tVar, tC, tOp, rI, rI0, rU, tTest, tB, tTup, tLst, gName, tIf, tAnd, tOr, tNot, tAndV, tOrV, tNotV, tUn, tCall, tChain, tSl, tNoPart, tPart, tBM, tBM0, tDGet, sDPut, rIxT, rIxL, rMulK, rLenK, rLstK, tTruK, gTup, gCons, gNil, rEq, rNe, scal, tNever, rMulK, rGcd, L2.start, List.map, List.length, List.replicate, List.cons_append, List.nil_append, List.append_nil, List.set, List.set_cons_zero, List.set_cons_succ, List.getElem?_cons_succ, List.getElem?_cons_zero, Option.some.injEq, List.cons.injEq, V.int.injEq, V.str.injEq, V.bl.injEq, V.ref.injEq, and_true, true_and, exists_eq_left, exists_eq_left', exists_eq_right, exists_eq_right', exists_eq, exists_and_left, exists_and_right, and_assoc, exists_false, false_and, and_false, or_false, false_or, reduceCtorEq, Nat.reduceAdd, Nat.reduceSub, List.append_assoc, eq_self, if_true, if_false, Bool.false_eq_true, decide_eq_true_eq, List.length_cons, List.length_nil]
    have tf := c.st.top
    have lx := tf.kx.len
    have hat := at_top (f := f) (fs := fs)
    have dp := c.st.deep
    have szL := sizeLine_eq
    refine ⟨_, sqL_mk c.atF, .ref f.t, hat, f.t, rfl, _, sqT_mk tf.t, rfl, _, _, rfl, _, _, rfl, _, _, rfl, rfl, f.fo, rfl, _, Or.inl (sqL_mk tf.fo), f.pa, rfl, _, Or.inl (sqL_mk tf.pa), ?_⟩
    refine ite2 (fun lt => ?_) (fun ge => ?_)
    · refine ⟨f.fo, rfl, _, Or.inl (sqL_mk tf.fo), f.pa, rfl, _, sqL_mk tf.pa, ?_⟩
      have lt' : f.ws.length < f.xs.length := by omega
      have hx : f.xs[f.ws.length]? = some f.xs[f.ws.length] := List.getElem?_eq_getElem lt'
      generalize f.xs[f.ws.length] = x at hx
      obtain ⟨dk, ek, tk⟩ := tf.kx.get hx
      obtain ⟨kk, em⟩ := kids_dep tf.tr (by omega)
      rw [show f.m - 1 = kk by omega] at tk
      refine ⟨x, atI_nat hx, Or.inl ⟨rfl, _, sqL_mk c.atF⟩, Old H, kk, x, dk, rfl, tk, fun p ys H3 k3 hp ep ky => ⟨by omega, fun fo2 hfo2 => ⟨by omega, fun t2 ht2 => ⟨F, ((f :: fs).map fun f => V.ref f.t).reverse, .ref t2, rfl, rfl, ?_, ?_, ?_⟩⟩⟩⟩
      · have e3 := kp0 k3 c.atF
        exact kp0 (Kp.new ht2) (kp0 (Kp.new hfo2) e3)
      · simp; omega
      · exact ⟨_, meas_push ek, F, _, _, _, _, _, _, rfl, by simp, c.push ek em tk k3 hp ep ky hfo2 ht2, rfl⟩
    · have eq : f.ws.length = f.xs.length := by have := tf.le; omega
      refine ⟨Or.inl ⟨rfl, _, sqL_mk c.atF⟩, F, _, .ref f.t, rfl, rfl, c.atF, by simp, ?_⟩
      show sp_put [f.w, V.ref f.fo] (upd H2 F (HO.lst ((f :: fs).map fun f => V.ref f.t).reverse.dropLast)) _ E0
      rw [show ((f :: fs).map fun f => V.ref f.t).reverse.dropLast = (fs.map fun f => V.ref f.t).reverse by rw [List.map_cons, List.reverse_cons, List.dropLast_concat]]
      have offF : ∀ b o, b ≠ F → H2 b = some o → upd H2 F (HO.lst (fs.map fun f => V.ref f.t).reverse) b = some o := fun b o nb e => by rw [upd_ne nb]; exact e
      have oldF : ∀ b, Old H b → b ≠ F := fun b h y => by subst y; exact h c.nF
      have kw := tf.kw
      rw [List.take_of_length_le (by omega)] at kw
      refine ⟨Old H, Own H (Mu F (f :: fs)), f.m, f.w, f.d, f.fo, f.ws, rfl, tf.tr.keep2 fun b o q r => ⟨q, offF b o (oldF b q) r⟩, offF _ _ (c.fo f (List.mem_cons_self ..)).1 tf.fo, fun h => h.2 tf.mo, kw.keep2 fun b o q r => ⟨q, offF b o (fun y => q.2 (Or.inl y)) r⟩, fun v' H3 k3 tv => ?_⟩
      cases fs with
      | nil =>
        obtain ⟨kz, tz⟩ := c.pop_one _ k3 tv
        refine ⟨false, Or.inl ⟨[], sqL_mk (kp0 k3 upd_same), rfl⟩, ?_⟩
        rw [if_pos (by rfl)]
        exact k _ _ kz tz
      | cons g gs =>
        obtain ⟨eg, cg⟩ := c.pop k3 tv
        have fg := c.all g (List.mem_cons_of_mem _ (List.mem_cons_self ..))
        have gt : H3 g.t = some (.tup [g.w, .ref g.pa, .ref g.fo]) := kp0 k3 (offF _ _ (fun y => fg.nt (Or.inl y)) fg.t)
        have gl : g.ws.length ≤ 100 := by
          have := fg.le; have := fg.kx.len; have := kids_len fg.tr
          omega
        refine ⟨true, Or.inl ⟨_, sqL_mk (kp0 k3 upd_same), by simp⟩, ?_⟩
        rw [if_neg (by simp)]
        refine ⟨_, sqL_mk (kp0 k3 upd_same), .ref g.t, at_top, g.t, rfl, _, sqT_mk gt, .ref g.fo, atI_nat (j := 2) rfl, Or.inl ⟨rfl, _, sqL_mk eg⟩, g.fo, g.ws, v', rfl, rfl, eg, by omega, ?_⟩
        exact ⟨_, meas_pop, F, _, _, _, _, _, _, rfl, by simp, cg, rfl⟩
end
end G
set_option Elab.async false
set_option linter.all false
set_option maxRecDepth 100000
set_option maxHeartbeats 2000000
set_option exponentiation.threshold 10000
namespace G
open PySem L2 NdefX
/-! ### the error BadPoint -/
def sIni : Stmt := (C8.clsBody (top 7)).getD 0 (.Pass ⟨0, 0, 0, 0⟩)
abbrev iniF (st : Stmt) (qual : Str) (cc cda : Addr) : NF := ⟨"__init__", qual, C8.fnArgs st, C8.fnBody st, C8.fnScope st, [(("__class__" : Str), cc)], cda⟩
theorem ns_ini : NScope ["self", "p", "q", "__class__"] ["self", "p", "q"] ["__class__"] (C8.fnScope sIni) := nscope_by (by decide +kernel)
/-- what stands written of an own error class C with its __init__ at f -/
structure ErrC (P : Program) (K : PySem.W.Frag) (mg : Str → Option Value) (x : Str) (st : Stmt) (qual : Str) (C f cc cda : Addr) (fd : FuncData) (fields : List Str) : Prop where
  g : mg x = some (.ref C)
  T : OexC K C
  S : SupC K C "ValueError" "ValueError.__init__"
  M : Ini P K C f cc (iniF st qual cc cda) fd "self"
  iC : PySem.W.findIn K (.ref C) "__init__" = some (some (.ref f))
  tI : PySem.W.typeIn K (.ref f) = some (.type "function")
  X : XfC K C
  no : ∀ y ∈ fields, PySem.W.findIn K (.ref C) y = some none
  sup : mg "super" = none
section
variable {P : Program} {w : World} {K : PySem.W.Frag} {mg : Str → Option Value} {base : Heap}
theorem k_ost (K : PySem.W.Frag) {X : Cx} {o e : Expr} {to te : TE} {f : Str} {p' pos : Pos} (ho : PE X o to) (he : PE X e te) (hs : swapsWith e (some (.Attribute o f p')) pos.line X.env = pure false := by rfl) (h : X.K = K := by rfl) : PS X (.Assign [.Attribute o f p'] e pos) (tOst K f to te) := h ▸ ps_ost ho he hs
theorem sup_ini : (C8.fnScope sIni).names.lookup ("super" : Str) = some .globalImplicit := by decide +kernel
/-! ### BadPoint.__init__ -/
def badFs (p q : Int) : List (Str × V) := [("q", .int q), ("p", .int p), ("called", .str "BadPoint")]
def sp_ini (K : PySem.W.Frag) (C : Addr) : Sp := fun vs H Q _ => ∃ (a : Addr) (p q : Int), vs = [.ref a, .int p, .int q] ∧ H a = some (exo a C none) ∧
  ∀ (d : Addr) (H' : Hp), H d = none → d ≠ a → H' a = some (exo a C (some d)) → H' d = some (exd d (badFs p q)) → (∀ b o, H b = some o → b ≠ a → H' b = some o) → Q .non H'
theorem ok_ini {C f cc cda : Addr} {fd : FuncData} (W : Ds K mg) (R : ErrC P K mg "BadPoint" sIni "BadPoint.__init__" C f cc cda fd ["called", "p", "q"]) : FnOk P w K mg base CX0 3 f fd ["self", "p", "q"] (sp_ini K C) := by
  refine ini_ok (N := ["self", "p", "q", "__class__"]) R.M ns_ini R.T R.S (by exact rfl) sup_ini R.sup (fun vs H Q E h => ?_) (fun L => ⟨⟨_, by exact rfl⟩, by exact rfl, by exact rfl⟩) (fun A outer s H vs Q E hr h => ?_)
  · obtain ⟨a, p, q, rfl, _⟩ := h
    rfl
  · obtain ⟨a, p, q, rfl, ha, k⟩ := h
    refine ⟨⟨a, _, rfl, ha⟩, _, (pss_cons (k_ost K (pv 0) pe_str) (pss_cons (k_ost K (pv 0) (pe_call (ok_cp W 0) (hr.mono (by decide)) rfl W.D_copied.g W.D_copied.F.kp W.D_copied.b .nil pass0 (pa_cons (pv 1) pa_nil)))
      (pss_one (k_ost K (pv 0) (pe_call (ok_cp W 0) (hr.mono (by decide)) rfl W.D_copied.g W.D_copied.F.kp W.D_copied.b .nil pass0 (pa_cons (pv 2) pa_nil)))))), ?_⟩
    rw [show startF ["self", "p", "q", "__class__"] [V.ref a, V.int p, V.int q] [none] = [some (.ref a), some (.int p), some (.int q), none] from rfl]
    simp only [tOst, tSeq, tIfS, tNext, tRet, tRetN, tAsg, tDrop, tPar, tCons, tNil, tCB, tVar, tC, tOp, rI, rI0, rU, tTest, tB, tTup, tLst, gName, tIf, tAnd, tOr, tNot, tAndV, tOrV, tNotV, tUn, tCall, tChain, tSl, tNoPart, tPart, tBM, tBM0, tDGet, sDPut, rIxT, rIxL, rMulK, rLenK, rLstK, tTruK, gTup, gCons, gNil, rEq, rNe, scal, tNever, rMulK, rGcd, L2.start, List.map, List.length, List.replicate, List.cons_append, List.nil_append, List.append_nil, List.set, List.set_cons_zero, List.set_cons_succ, List.getElem?_cons_succ, List.getElem?_cons_zero, Option.some.injEq, List.cons.injEq, V.int.injEq, V.str.injEq, V.bl.injEq, V.ref.injEq, and_true, true_and, exists_eq_left, exists_eq_left', exists_eq_right, exists_eq_right', exists_eq, exists_and_left, exists_and_right, and_assoc, exists_false, false_and, and_false, or_false, false_or, reduceCtorEq, Nat.reduceAdd, Nat.reduceSub, List.append_assoc, eq_self, if_true, if_false, Bool.false_eq_true, decide_eq_true_eq, List.length_cons, List.length_nil]
    refine ⟨C, R.T, R.no _ (by simp), Or.inl ⟨ha, fun dx hdx nda => ?_⟩⟩
    refine ⟨by omega, fun _ => True, .int p, .int p, rfl, .int p, fun v1 H1 k1 t1 => ?_⟩
    cases t1
    have a1 := kp0 k1 (b := a) upd_same
    have d1 := kp0 k1 (b := dx) (by rw [upd_ne nda]; exact upd_same)
    refine ⟨C, R.T, R.no _ (by simp), Or.inr ⟨dx, a1, _, d1, by simp, ?_⟩⟩
    refine ⟨by omega, fun _ => True, .int q, .int q, rfl, .int q, fun v2 H2 k2 t2 => ?_⟩
    cases t2
    have a2 := kp0 k2 (b := a) (by rw [upd_ne (Ne.symm nda)]; exact a1)
    have d2 := kp0 k2 (b := dx) upd_same
    refine ⟨C, R.T, R.no _ (by simp), Or.inr ⟨dx, a2, _, d2, by simp, ?_⟩⟩
    refine k dx _ hdx nda (by rw [upd_ne (Ne.symm nda)]; exact a2) upd_same fun b o e nb => ?_
    have nbd := ne_of_none e hdx
    rw [upd_ne nbd]
    refine kp0 k2 ?_
    rw [upd_ne nbd]
    refine kp0 k1 ?_
    rw [upd_ne nb, upd_ne nbd]
    exact e
/-! ### make_point -/
theorem log2_lt8 {j : Int} (h : j.natAbs < 2 ^ 8000) : j.natAbs.log2 < 9000 := Nat.lt_of_lt_of_le (PySem.Flt.log2_lt_of (by omega) h) (by omega)
/-- // by a divisor of either sign below 2 ^ 9000 -/
def CDivK (_ j : Int) : Prop := j ≠ 0 ∧ j.natAbs.log2 < 9000
theorem op_fdivK {X : Cx} : OpR X (binaryOp .FloorDiv) (rI CDivK fun i j => .int (i.fdiv j)) := opI fun _ _ _ _ _ _ _ hc q => PyProof.Rows.floordiv_int hc.1 q (.inl (PyProof.noPylong_of_log2 hc.2))
def mkP (p q : Int) : Pt := if 0 < q then normP p q else normP (-p) (-q)
def sp_make_point (K : PySem.W.Frag) (C : Addr) : Sp := fun vs H Q E => ∃ p q : Int, vs = [.int p, .int q] ∧ q.natAbs < 2 ^ 8000 ∧
  (q ≠ 0 → ∀ (a : Addr) (H' : Hp), Kp M0 H H' → H' a = some (.tup [.int (mkP p q).1, .int (mkP p q).2]) → Q (.ref a) H') ∧
  (q = 0 → ∀ (d : Addr) (H' : Hp), H d = none → Kp M0 H H' → H' d = some (.xd (badFs p q)) → E (.ref C) (some d) H')
theorem ok_make_point {C f cc cda : Addr} {fd : FuncData} (W : Ds K mg) (R : ErrC P K mg "BadPoint" sIni "BadPoint.__init__" C f cc cda fd ["called", "p", "q"]) (bI : Binds K fd ["self", "p", "q"] []) : FnOk P w K mg base (L2.CX P w) 5 W.f_make_point W.fd_make_point P_make_point (sp_make_point K C) := by
  refine W.D_make_point.F.okX sc_make_point (fun vs H Q E h => ?len) (fun cdv A outer s H vs Q E hr h => ?body)
  case len =>
    obtain ⟨p, q, rfl, _⟩ := h
    rfl
  case body =>
    obtain ⟨p, q, rfl, hb, k1, k2⟩ := h
    have nd := sc_make_point.nd
    have hu := hu_of hr
    refine ⟨_, (pss_cons (ps_if (pt_cmpR op_eq (pv 1) pe_int (nomark _)) (pss_one (ps_raise rfl (takes_of rfl rfl rfl rfl) (pmk_oex R.T R.iC R.tI (ok_ini W R) (hr.mono (by decide)) bI .nil pass0 rfl R.g (pa_cons (pv 0) (pa_cons (pv 1) pa_nil))))) pss_nil)
      (pss_cons (ps_set (i := 2) nd rfl (by first | exact Or.inl rfl | exact Or.inr rfl) (pe_ifExp (pt_cmpR op_gt (pv 1) pe_int (nomark _)) (pe_callBfun cr_gcd (by rfl) W.T.i_gcd (pa_cons (pv 0) (pa_cons (pv 1) pa_nil))) (pe_un un_neg (pe_callBfun cr_gcd (by rfl) W.T.i_gcd (pa_cons (pv 0) (pa_cons (pv 1) pa_nil))))))
  (pss_one (ps_ret (pe_tup (pa_cons (pe_op op_fdivK (pv 0) (pv 2)) (pa_cons (pe_op op_fdivK (pv 1) (pv 2)) pa_nil))))))), ?_⟩
    simp only [tSeq, tIfS, tNext, tRet, tRetN, tAsg, tDrop, tPar, tCons, tNil, tCB, tVar, tC, tOp, rI, rI0, rU, tTest, tB, tTup, tLst, gName, tIf, tAnd, tOr, tNot, tAndV, tOrV, tNotV, tUn, tCall, tChain, tSl, tNoPart, tPart, tBM, tBM0, tDGet, sDPut, rIxT, rIxL, rMulK, rLenK, rLstK, tTruK, gTup, gCons, gNil, rEq, rNe, scal, tNever, rMulK, rGcd, L2.start, List.map, List.length, List.replicate, List.cons_append, List.nil_append, List.append_nil, List.set, List.set_cons_zero, List.set_cons_succ, List.getElem?_cons_succ, List.getElem?_cons_zero, Option.some.injEq, List.cons.injEq, V.int.injEq, V.str.injEq, V.bl.injEq, V.ref.injEq, and_true, true_and, exists_eq_left, exists_eq_left', exists_eq_right, exists_eq_right', exists_eq, exists_and_left, exists_and_right, and_assoc, exists_false, false_and, and_false, or_false, false_or, reduceCtorEq, Nat.reduceAdd, Nat.reduceSub, List.append_assoc, eq_self, if_true, if_false, Bool.false_eq_true, decide_eq_true_eq, List.length_cons, List.length_nil]
    refine ite2 (fun c => ?_) (fun c => ?_)
    · simp only [tMkO, tSeq, tIfS, tNext, tRet, tRetN, tAsg, tDrop, tPar, tCons, tNil, tCB, tVar, tC, tOp, rI, rI0, rU, tTest, tB, tTup, tLst, gName, tIf, tAnd, tOr, tNot, tAndV, tOrV, tNotV, tUn, tCall, tChain, tSl, tNoPart, tPart, tBM, tBM0, tDGet, sDPut, rIxT, rIxL, rMulK, rLenK, rLstK, tTruK, gTup, gCons, gNil, rEq, rNe, scal, tNever, rMulK, rGcd, L2.start, List.map, List.length, List.replicate, List.cons_append, List.nil_append, List.append_nil, List.set, List.set_cons_zero, List.set_cons_succ, List.getElem?_cons_succ, List.getElem?_cons_zero, Option.some.injEq, List.cons.injEq, V.int.injEq, V.str.injEq, V.bl.injEq, V.ref.injEq, and_true, true_and, exists_eq_left, exists_eq_left', exists_eq_right, exists_eq_right', exists_eq, exists_and_left, exists_and_right, and_assoc, exists_false, false_and, and_false, or_false, false_or, reduceCtorEq, Nat.reduceAdd, Nat.reduceSub, List.append_assoc, eq_self, if_true, if_false, Bool.false_eq_true, decide_eq_true_eq, List.length_cons, List.length_nil]
      refine ⟨by decide, fun a hna => ?_⟩
      refine ⟨a, p, q, rfl, upd_same, fun d H' hd nda h1 h2 h3 => ⟨rfl, d, h1, badFs p q, h2, ?_⟩⟩
      rw [upd_ne nda] at hd
      refine ⟨hd, k2 c d _ hd (fun b o e _ => ?_) upd_same⟩
      have nba := ne_of_none e hna
      have nbd := ne_of_none e hd
      rw [upd_ne nbd, del_ne nba]
      exact h3 b o (by rw [upd_ne nba]; exact e) nba
    have gp : 0 < (Int.gcd p q : Int) := by
      have : Int.gcd p q ≠ 0 := fun e => c (Int.gcd_eq_zero_iff.mp e).2
      omega
    have gl : Int.gcd p q ≤ q.natAbs := Int.gcd_le_natAbs_right p c
    have ge : p.natAbs.gcd q.natAbs = Int.gcd p q := rfl
    have gb : ((Int.gcd p q : Nat) : Int).natAbs < 2 ^ 8000 := by rw [Int.natAbs_natCast]; omega
    have lg := log2_lt8 gb
    have d1 : (Int.gcd p q : Int) ∣ p := Int.gcd_dvd_left ..
    have d2 : (Int.gcd p q : Int) ∣ q := Int.gcd_dvd_right ..
    rw [ge]
    refine ite2 (fun c1 => ?_) (fun c1 => ?_)
    · have hw : ∀ i, CDivK i (Int.gcd p q : Int) := fun i => ⟨by omega, lg⟩
      refine ⟨hw p, hw q, by decide, fun t ht => k1 c t _ (Kp.new ht) ?_⟩
      have e : mkP p q = (p.fdiv (Int.gcd p q : Int), q.fdiv (Int.gcd p q : Int)) := by
        unfold mkP
        rw [if_pos c1, Int.fdiv_eq_ediv_of_dvd d1, Int.fdiv_eq_ediv_of_dvd d2]
        rfl
      rw [e]; exact upd_same
    · have e : mkP p q = (p.fdiv (-(Int.gcd p q : Int)), q.fdiv (-(Int.gcd p q : Int))) := by
        unfold mkP
        rw [if_neg c1, Int.fdiv_eq_ediv_of_dvd (Int.neg_dvd.mpr d1), Int.fdiv_eq_ediv_of_dvd (Int.neg_dvd.mpr d2)]
        unfold normP
        rw [Int.gcd_neg, Int.neg_gcd, Int.neg_ediv_of_dvd d1, Int.neg_ediv_of_dvd d2, Int.ediv_neg, Int.ediv_neg]
      have hw : ∀ i, CDivK i (-(Int.gcd p q : Int)) := fun i => ⟨by omega, by rw [Int.natAbs_neg]; exact lg⟩
      refine ⟨hw p, hw q, by decide, fun t ht => k1 c t _ (Kp.new ht) ?_⟩
      rw [e]; exact upd_same
end
end G
set_option Elab.async false
set_option linter.all false
set_option maxRecDepth 100000
set_option maxHeartbeats 2000000
set_option exponentiation.threshold 10000
namespace G
open PySem L2 NdefX
section
variable {P : Program} {w : World} {K : PySem.W.Frag} {mg : Str → Option Value} {base : Heap}
/-- what the two clauses ask of the classes -/
structure ErrM (K : PySem.W.Frag) (mg : Str → Option Value) (C CL : Addr) : Prop where
  gL : mg "LineError" = some (.ref CL)
  own : PySem.W.exmOne K (.ref C) (.ref C) = some true
  line : PySem.W.exmOne K (.ref C) (.ref CL) = some true
theorem bad_shaped (p : Int) : SeqAt.shaped (.list [.int p, .int 0, .str "BadPoint"]) = true := by
  have h1 : PyData.canLay0 (.str "BadPoint") = true := by decide +kernel
  simp [SeqAt.shaped, PyData.canLay0, PyData.canLayAll0, PyData.depth, PyData.depthAll]
  exact h1
def sp__law_refused (K : PySem.W.Frag) : Sp := fun vs H Q _ => ∃ p : Int, vs = [.int p] ∧ ∀ H', Kp M0 H H' → Q (.bl true) H'
theorem ok__law_refused {C f cc cda CL : Addr} {fd : FuncData} (W : Ds K mg) (R : ErrC P K mg "BadPoint" sIni "BadPoint.__init__" C f cc cda fd ["called", "p", "q"]) (bI : Binds K fd ["self", "p", "q"] []) (L : ErrM K mg C CL) :
    FnOk P w K mg base CX0 7 W.f__law_refused W.fd__law_refused P__law_refused (sp__law_refused K) := by
  refine W.D__law_refused.F.ok sc__law_refused (fun vs H Q E h => ?len) (fun cdv A outer s H vs Q E hr h => ?body)
  case len =>
    obtain ⟨p, rfl, _⟩ := h
    rfl
  case body =>
    obtain ⟨p, rfl, k⟩ := h
    have nd := sc__law_refused.nd
    have hu := hu_of hr
    have hu64 := hr.units
    refine ⟨_, (pss_cons (ps_try_as (i := 1) rfl rfl nd rfl rfl ⟨rfl, by decide, .inl R.g⟩ takes0 (fun W' pn xe tk _ => pss_cons (ps_expr (pe_callS (ok_make_point W R bI) (hr.mono (by decide)) rfl W.D_make_point.g W.D_make_point.F.kp W.D_make_point.b (fun σ => passAt tk σ) (pa_cons (pv 0) (pa_cons pe_int pa_nil)))) (pss_one (ps_ret pe_bl)))
        (fun a oe cls d pn hz hf => pss_one (ps_set (i := 2) nd rfl (by first | exact Or.inl rfl | exact Or.inr rfl) (pe_lst (pa_cons (pe_xf R.X (R.no _ (by simp)) hz hf (pv 1)) (pa_cons (pe_xf R.X (R.no _ (by simp)) hz hf (pv 1)) (pa_cons (pe_xf R.X (R.no _ (by simp)) hz hf (pv 1)) pa_nil)))))))
      (pss_one (ps_try_as (i := 1) rfl rfl nd rfl rfl ⟨rfl, by decide, .inl L.gL⟩ takes0 (fun W' pn xe tk _ => pss_cons (ps_expr (pe_callS (ok_make_point W R bI) (hr.mono (by decide)) rfl W.D_make_point.g W.D_make_point.F.kp W.D_make_point.b (fun σ => passAt tk σ) (pa_cons (pv 0) (pa_cons pe_int pa_nil)))) (pss_one (ps_ret pe_bl)))
        (fun a oe cls d pn hz hf => pss_one (ps_ret (pe_and (pe_cmpR (k_eqD K hu64) (pv 2) (pe_lst (pa_cons (pv 0) (pa_cons pe_int (pa_cons pe_str pa_nil)))) (nomark _)) (pe_one (pe_cmpR op_eq (pe_xf R.X (R.no _ (by simp)) hz hf (pv 1)) pe_str (nomark _))))))))), ?_⟩
    simp only [tSeq, tIfS, tNext, tRet, tRetN, tAsg, tDrop, tPar, tCons, tNil, tCB, tVar, tC, tOp, rI, rI0, rU, tTest, tB, tTup, tLst, gName, tIf, tAnd, tOr, tNot, tAndV, tOrV, tNotV, tUn, tCall, tChain, tSl, tNoPart, tPart, tBM, tBM0, tDGet, sDPut, rIxT, rIxL, rMulK, rLenK, rLstK, tTruK, gTup, gCons, gNil, rEq, rNe, scal, tNever, rMulK, rGcd, L2.start, List.map, List.length, List.replicate, List.cons_append, List.nil_append, List.append_nil, List.set, List.set_cons_zero, List.set_cons_succ, List.getElem?_cons_succ, List.getElem?_cons_zero, Option.some.injEq, List.cons.injEq, V.int.injEq, V.str.injEq, V.bl.injEq, V.ref.injEq, and_true, true_and, exists_eq_left, exists_eq_left', exists_eq_right, exists_eq_right', exists_eq, exists_and_left, exists_and_right, and_assoc, exists_false, false_and, and_false, or_false, false_or, reduceCtorEq, Nat.reduceAdd, Nat.reduceSub, List.append_assoc, eq_self, if_true, if_false, Bool.false_eq_true, decide_eq_true_eq, List.length_cons, List.length_nil]
    refine ⟨_, rfl, p, 0, rfl, by decide, fun z => absurd rfl z, fun _ d1 H1 hd1 k1 e1 => ?_⟩
    refine ⟨true, L.own, fun _ a ha => ?_, fun z => nomatch z⟩
    simp only [tXf, tSeq, tIfS, tNext, tRet, tRetN, tAsg, tDrop, tPar, tCons, tNil, tCB, tVar, tC, tOp, rI, rI0, rU, tTest, tB, tTup, tLst, gName, tIf, tAnd, tOr, tNot, tAndV, tOrV, tNotV, tUn, tCall, tChain, tSl, tNoPart, tPart, tBM, tBM0, tDGet, sDPut, rIxT, rIxL, rMulK, rLenK, rLstK, tTruK, gTup, gCons, gNil, rEq, rNe, scal, tNever, rMulK, rGcd, L2.start, List.map, List.length, List.replicate, List.cons_append, List.nil_append, List.append_nil, List.set, List.set_cons_zero, List.set_cons_succ, List.getElem?_cons_succ, List.getElem?_cons_zero, Option.some.injEq, List.cons.injEq, V.int.injEq, V.str.injEq, V.bl.injEq, V.ref.injEq, and_true, true_and, exists_eq_left, exists_eq_left', exists_eq_right, exists_eq_right', exists_eq, exists_and_left, exists_and_right, and_assoc, exists_false, false_and, and_false, or_false, false_or, reduceCtorEq, Nat.reduceAdd, Nat.reduceSub, List.append_assoc, eq_self, if_true, if_false, Bool.false_eq_true, decide_eq_true_eq, List.length_cons, List.length_nil]
    have lp : List.lookup ("p" : Str) (badFs p 0) = some (.int p) := by
      have n1 : (("p" : Str) == ("q" : Str)) = false := by decide +kernel
      simp [badFs, List.lookup, n1]
    have lq : List.lookup ("q" : Str) (badFs p 0) = some (.int 0) := by simp [badFs, List.lookup]
    have lc : List.lookup ("called" : Str) (badFs p 0) = some (.str "BadPoint") := by
      have n1 : (("called" : Str) == ("q" : Str)) = false := by decide +kernel
      have n2 : (("called" : Str) == ("p" : Str)) = false := by decide +kernel
      simp [badFs, List.lookup, n1, n2]
    refine ⟨_, e1, _, lp, _, e1, _, lq, _, e1, _, lc, by decide, fun t ht => ?_⟩
    have kt := Kp.new (M := M0) (o := .lst [.int p, .int 0, .str "BadPoint"]) ht
    refine ⟨_, rfl, p, 0, rfl, by decide, fun z => absurd rfl z, fun _ d2 H2 hd2 k2 e2 => ?_⟩
    refine ⟨true, L.line, fun _ a2 ha2 => ?_, fun z => nomatch z⟩
    simp only [tXf, tSeq, tIfS, tNext, tRet, tRetN, tAsg, tDrop, tPar, tCons, tNil, tCB, tVar, tC, tOp, rI, rI0, rU, tTest, tB, tTup, tLst, gName, tIf, tAnd, tOr, tNot, tAndV, tOrV, tNotV, tUn, tCall, tChain, tSl, tNoPart, tPart, tBM, tBM0, tDGet, sDPut, rIxT, rIxL, rMulK, rLenK, rLstK, tTruK, gTup, gCons, gNil, rEq, rNe, scal, tNever, rMulK, rGcd, L2.start, List.map, List.length, List.replicate, List.cons_append, List.nil_append, List.append_nil, List.set, List.set_cons_zero, List.set_cons_succ, List.getElem?_cons_succ, List.getElem?_cons_zero, Option.some.injEq, List.cons.injEq, V.int.injEq, V.str.injEq, V.bl.injEq, V.ref.injEq, and_true, true_and, exists_eq_left, exists_eq_left', exists_eq_right, exists_eq_right', exists_eq, exists_and_left, exists_and_right, and_assoc, exists_false, false_and, and_false, or_false, false_or, reduceCtorEq, Nat.reduceAdd, Nat.reduceSub, List.append_assoc, eq_self, if_true, if_false, Bool.false_eq_true, decide_eq_true_eq, List.length_cons, List.length_nil]
    have ht2 : H2 t = some (.lst [.int p, .int 0, .str "BadPoint"]) := k2 t _ upd_same (fun z => z)
    refine ⟨by decide, fun t2 ht3 => ?_⟩
    have k3 := Kp.new (M := M0) (o := .lst [.int p, .int 0, .str "BadPoint"]) ht3
    have nt := ne_of_none ht2 ht3
    have ht5 : upd H2 t2 (HO.lst [.int p, .int 0, .str "BadPoint"]) t = some (.lst [.int p, .int 0, .str "BadPoint"]) := by rw [upd_ne nt]; exact ht2
    have parts : ∀ H', DpAll K H' [V.int p, V.int 0, V.str "BadPoint"] [.int p, .int 0, .str "BadPoint"] := fun H' => .cons (.int p) (.cons (.int 0) (.cons (.str _) .nil))
    have sh : SeqAt.shaped (.list [.int p, .int 0, .str "BadPoint"]) = true := bad_shaped p
    refine ⟨_, _, .lst (sqL_mk ht5) (parts _), .lst (sqL_mk upd_same) (parts _), sh, sh, _, rfl, ?_⟩
    rw [if_pos (by simp [PyData.eqv, PyData.eqvAll])]
    refine ⟨_, k3 d2 _ e2 (fun z => z), _, lc, rfl, ?_⟩
    rw [decide_eq_true rfl]
    exact k _ (((k1.trans kt).trans k2).trans k3)
end
end G
set_option Elab.async false
set_option linter.all false
set_option maxRecDepth 100000
set_option maxHeartbeats 2000000
set_option exponentiation.threshold 10000
namespace G
open PySem L2 NdefX
section
variable {P : Program} {w : World} {K : PySem.W.Frag} {mg : Str → Option Value} {base : Heap}
theorem pass0X {X : Cx} : Passes (L2.CX X.prog X.w) X E0 := fun _ _ _ _ _ _ _ h => by
  obtain ⟨_, _, _, _, _, _, _, _, _, _, _, _, z⟩ := h
  exact z.elim
section
variable {X : Cx} {k : Nat} {f : Addr} {fd : FuncData} {sp : Sp} {x : Str} {p pos : Pos}
/-- f(), f such a def -/
theorem peG_call0 (F : FnG X.prog X.w X.K X.mg X.base k f fd [] sp) (nr : NoRepr X.A) (room : Room k X.A) (hg : Gl X x) (hm : X.mg x = some (.ref f)) (hk : PySem.W.keepIn X.K (.ref f) = true) (hb : Binds X.K fd [] [])
    (hdb : (x == ("__debug__" : Str)) = false := by decide) : PE X (.Call (.Name x p) [] [] pos) (tCall sp [] E0 tNil) := by
  constructor
  intro pins s σ H Q I h
  refine wpAny_Call_Name_kw (ld_glob I hg hm ?_ hdb)
  have bind := hb s [] I.kIn rfl
  refine PySem.W.callWith_K0 I.kIn hk (wpAny_call (codeAny_mono (F.run X.A X.stack s H ⟨[], []⟩ [] [] Q E0 nr room I.env0 bind .nil h) fun res s2 hz => ?_))
  cases res with
  | error e => exact False.elim hz
  | ok fl =>
    cases fl with
    | ret u => exact I.after hz
    | next => exact False.elim hz
    | brk => exact False.elim hz
    | cont => exact False.elim hz
end
def sp__law_copies_right : Sp := fun vs H Q _ => vs = [] ∧ ∀ H', Kp M0 H H' → Q (.bl true) H'
/-! lowest terms, q of either sign -/
theorem mkP_pos {p q : Int} (h : 0 < q) : mkP p q = normP p q := by unfold mkP; rw [if_pos h]
theorem mkP_neg {p q : Int} (h : ¬ 0 < q) : mkP p q = normP (-p) (-q) := by unfold mkP; rw [if_neg h]
theorem mkP_ok {p q : Int} (h : q ≠ 0) : PtOk (mkP p q) := by
  by_cases c : 0 < q
  · rw [mkP_pos c]; exact norm_ok c
  · rw [mkP_neg c]; exact norm_ok (by omega)
theorem mkP_sz {p q : Int} {b : Nat} (h : q ≠ 0) (hp : p.natAbs < 2 ^ b) (hq : q.natAbs < 2 ^ b) : Sz b (mkP p q) := by
  by_cases c : 0 < q
  · rw [mkP_pos c]; exact norm_sz c hp hq
  · rw [mkP_neg c]; exact norm_sz (by omega) (by rw [Int.natAbs_neg]; exact hp) (by rw [Int.natAbs_neg]; exact hq)
theorem norm_mul {p q f : Int} (hq : 0 < q) (hf : 0 < f) : normP (p * f) (q * f) = normP p q := by
  have hqf : 0 < q * f := Int.mul_pos hq hf
  have g := gcd_pos' (p := p) hq
  have e : (Int.gcd (p * f) (q * f) : Int) = (Int.gcd p q : Int) * f := by
    rw [Int.gcd_mul_right, Int.natCast_mul, Int.natAbs_of_nonneg (by omega)]
  unfold normP
  rw [e, Int.mul_ediv_mul_of_pos_left p _ hf, Int.mul_ediv_mul_of_pos_left q _ hf]
theorem mkP_mul {p q f : Int} (h : q ≠ 0) (hf : 0 < f) : mkP (p * f) (q * f) = mkP p q := by
  by_cases c : 0 < q
  · rw [mkP_pos c, mkP_pos (Int.mul_pos c hf), norm_mul c hf]
  · have c2 : ¬ 0 < q * f := fun z => by
      have := (mul_pos_iff hf).mp z
      exact c this
    rw [mkP_neg c, mkP_neg c2, ← Int.neg_mul, ← Int.neg_mul, norm_mul (by omega) hf]
theorem mkP_flip {p q : Int} (h : q ≠ 0) : mkP (0 - p) (0 - q) = mkP p q := by
  by_cases c : 0 < q
  · rw [mkP_pos c, mkP_neg (by omega)]
    congr 1 <;> omega
  · rw [mkP_neg c, mkP_pos (by omega)]
    congr 1 <;> omega
theorem norm_negp {p q : Int} : normP (-p) q = (-(normP p q).1, (normP p q).2) := by
  unfold normP
  rw [Int.neg_gcd, Int.neg_ediv_of_dvd (Int.gcd_dvd_left ..)]
theorem mkP_negp {p q : Int} (h : q ≠ 0) : mkP (0 - p) q = (0 - (mkP p q).1, (mkP p q).2) := by
  have e : (0 - p) = -p := by omega
  rw [e]
  by_cases c : 0 < q
  · rw [mkP_pos c, mkP_pos c, norm_negp]
    congr 1; omega
  · rw [mkP_neg c, mkP_neg c, norm_negp]
    congr 1; omega
theorem mkP_zero {q : Int} (h : q ≠ 0) : mkP 0 q = (0, 1) := by
  have z : ∀ r : Int, 0 < r → normP 0 r = (0, 1) := fun r hr => by
    unfold normP
    rw [Int.zero_gcd, Int.natAbs_of_nonneg (by omega), Int.zero_ediv, Int.ediv_self (by omega)]
  by_cases c : 0 < q
  · rw [mkP_pos c, z q c]
  · rw [mkP_neg c, Int.neg_zero, z _ (by omega)]
structure KnAt (K : PySem.W.Frag) (H : Hp) (kn : Addr) (l : List Pt) : Prop where
  at' : ∃ us, H kn = some (.lst us) ∧ DpAll K H us (l.map ptD)
  ok : ∀ x ∈ l, PtOk x ∧ Sz 110 x
theorem KnAt.keep {M : Addr → Prop} {H H' : Hp} {kn : Addr} {l : List Pt} (h : KnAt K H kn l) (k : Kp M H H') (t : Tk H H') (n : ¬ M kn) : KnAt K H' kn l := by
  obtain ⟨us, h1, h2⟩ := h.at'
  exact ⟨⟨us, k kn _ h1 n, dps_tk t _ _ (ptDs_tup l) h2⟩, h.ok⟩
theorem KnAt.keep0 {H H' : Hp} {kn : Addr} {l : List Pt} (h : KnAt K H kn l) (k : Kp M0 H H') : KnAt K H' kn l := h.keep k (Tk.of0 k) (fun z => z)
/-- in a lap: what slots 4 to 6 hold, and what is known of slot 7 -/
def LB (K : PySem.W.Frag) (a d c kn : Addr) (n : Nat) (c4 c5 c6 : Option V) (C7 : Option V → Hp → Prop) (σ : L2.St) (H' : Hp) : Prop :=
  ∃ l v3 v7 v8 v9 v10, σ = [some (.ref a), some (.ref d), some (.ref kn), v3, c4, c5, c6, v7, v8, v9, v10] ∧ SrcAt H' d c ∧ KnAt K H' kn l ∧ l.length ≤ n ∧ C7 v7 H'
def L0 (K : PySem.W.Frag) (a d c kn : Addr) (n : Nat) (σ : L2.St) (H' : Hp) : Prop := ∃ c4 c5 c6, LB K a d c kn n c4 c5 c6 (fun _ _ => True) σ H'
def L0e (K : PySem.W.Frag) (a d c : Addr) (n : Nat) (σ : L2.St) (H' : Hp) : Prop := ∃ kn, d ≠ kn ∧ c ≠ kn ∧ L0 K a d c kn n σ H'
def L1 (K : PySem.W.Frag) (a d c kn : Addr) (n : Nat) (σ : L2.St) (H' : Hp) : Prop := ∃ (p q : Int) (c6 : Option V), p.natAbs < 2 ^ 101 ∧ q.natAbs < 2 ^ 101 ∧ LB K a d c kn n (some (.int p)) (some (.int q)) c6 (fun _ _ => True) σ H'
def L2' (K : PySem.W.Frag) (a d c kn : Addr) (n : Nat) (p q : Int) (σ : L2.St) (H' : Hp) : Prop := ∃ fac : Int, 0 < fac ∧ fac < 2 ^ 30 ∧ LB K a d c kn n (some (.int p)) (some (.int q)) (some (.int fac)) (fun _ _ => True) σ H'
def L4 (K : PySem.W.Frag) (a d c kn : Addr) (n : Nat) (p fac : Int) (σ : L2.St) (H' : Hp) : Prop := ∃ q : Int, q ≠ 0 ∧ q.natAbs < 2 ^ 101 ∧ LB K a d c kn n (some (.int p)) (some (.int q)) (some (.int fac)) (fun _ _ => True) σ H'
def dueAt (K : PySem.W.Frag) (p q : Int) (v : Option V) (H : Hp) : Prop := ∃ u, v = some u ∧ Dp K H u (ptD (mkP p q))
def LE (s7 : List (Option V)) (H4 : Hp) (_ : Nat) (σ : L2.St) (H' : Hp) : Prop := ∃ v8 v9 v10, σ = s7 ++ [v8, v9, v10] ∧ H' = H4
def LE8 (s7 : List (Option V)) (v8 : V) (H4 : Hp) (_ : Nat) (σ : L2.St) (H' : Hp) : Prop := ∃ v9 v10, σ = s7 ++ [some v8, v9, v10] ∧ H' = H4
def LE9 (s7 : List (Option V)) (v8 v9 : V) (b : Bool) (H4 : Hp) (σ : L2.St) (H' : Hp) : Prop := σ = s7 ++ [some v8, some v9, some (.bl b)] ∧ H' = H4
def sp_law (K : PySem.W.Frag) : Sp := fun vs H Q _ => ∃ (a : Addr) (ns : List Int), vs = [.ref a] ∧ SqL K H a (ns.map V.int) ∧ ns.length ≤ 63 ∧ ∀ H', Q (.bl true) H'
theorem ok_law {C f cc cda CL : Addr} {fd : FuncData} (W : Ds K mg) (R : ErrC P K mg "BadPoint" sIni "BadPoint.__init__" C f cc cda fd ["called", "p", "q"]) (bI : Binds K fd ["self", "p", "q"] []) (L : ErrM K mg C CL)
    (hcop : FnG P w K mg base 9 W.f__law_copies_right W.fd__law_copies_right [] sp__law_copies_right) : FnG P w K mg base 10 W.f_law W.fd_law P_law (sp_law K) := by
  refine fnG_ok W.D_law.F sc_law (fun vs H Q E h => ?len) (fun cdv A outer s H vs Q E nr hr h => ?body)
  case len =>
    obtain ⟨a, ns, rfl, _⟩ := h
    rfl
  case body =>
    obtain ⟨a, ns, rfl, hS, hn, k⟩ := h
    have nd := sc_law.nd
    have hu := hu_of hr
    have hu64 := hr.units
    have hu65 := hu65_of hr
    refine ⟨_, (pss_cons (ps_set (i := 1) nd rfl (by first | exact Or.inl rfl | exact Or.inr rfl) (pe_call (ok__law_open_cells W) (hr.mono (by first | decide | omega)) rfl W.D__law_open_cells.g W.D__law_open_cells.F.kp W.D__law_open_cells.b .nil pass0 (pa_cons (pv 0) pa_nil)))
  (Evl.pss_cut (ps_set (i := 2) nd rfl (by first | exact Or.inl rfl | exact Or.inr rfl) (pe_lst (pa_cons (pe_tup (pa_cons pe_int (pa_cons pe_int pa_nil))) pa_nil)))
  (Evl.pss_cut (ps_if (pt_not (pt_val (peG_call0 hcop nr (hr.mono (by first | decide | omega)) rfl W.D__law_copies_right.g W.D__law_copies_right.F.kp W.D__law_copies_right.b)))
     (pss_one (ps_ret pe_bl))
     pss_nil)
  (Evl.pss_cut (ps_for PassesOwn.never rfl (pi_range1 rfl W.T.b_range (pa_cons pe_int pa_nil)) (pg_name (i := 3) nd rfl (by first | exact Or.inl rfl | exact Or.inr rfl))
     (Evl.pss_cut (ps_par (i := 4) (j := 5) rfl nd rfl rfl (by decide) rfl rfl (pa_cons (pe_call (ok__law_whole W) (hr.mono (by first | decide | omega)) rfl W.D__law_whole.g W.D__law_whole.F.kp W.D__law_whole.b .nil pass0 (pa_cons (pv 1) pa_nil)) (pa_cons (pe_call (ok__law_whole W) (hr.mono (by first | decide | omega)) rfl W.D__law_whole.g W.D__law_whole.F.kp W.D__law_whole.b .nil pass0 (pa_cons (pv 1) pa_nil)) pa_nil)) (by rfl))
      (Evl.pss_cut (ps_set (i := 6) nd rfl (by first | exact Or.inl rfl | exact Or.inr rfl) (pe_ix (k_ixL K) (pe_lst (pa_cons (pe_op op_add pe_int (pe_call (ok__law_pick W) (hr.mono (by first | decide | omega)) rfl W.D__law_pick.g W.D__law_pick.F.kp W.D__law_pick.b .nil pass0 (pa_cons (pv 1) (pa_cons pe_int pa_nil)))) (pa_cons pe_int (pa_cons pe_int pa_nil)))) (pe_call (ok__law_pick W) (hr.mono (by first | decide | omega)) rfl W.D__law_pick.g W.D__law_pick.F.kp W.D__law_pick.b .nil pass0 (pa_cons (pv 1) (pa_cons pe_int pa_nil))) (fun _ _ => rfl)))
      (Evl.pss_cut (ps_if (pt_not (pt_val (pe_call (ok__law_refused W R bI L) (hr.mono (by first | decide | omega)) rfl W.D__law_refused.g W.D__law_refused.F.kp W.D__law_refused.b .nil pass0 (pa_cons (pv 4) pa_nil))))
         (pss_one (ps_ret pe_bl))
         pss_nil)
      (Evl.pss_cut (ps_set (i := 5) nd rfl (by first | exact Or.inl rfl | exact Or.inr rfl) (pe_ifExp (pt_cmpR op_ne (pv 5) pe_int (nomark _)) (pv 5) pe_int))
      (Evl.pss_cut (ps_set (i := 7) nd rfl (by first | exact Or.inl rfl | exact Or.inr rfl) (pe_ifExp (pt_cmpR op_gt (pv 5) pe_int (nomark _)) (pe_call (ok__law_point W) (hr.mono (by first | decide | omega)) rfl W.D__law_point.g W.D__law_point.F.kp W.D__law_point.b .nil pass0 (pa_cons (pv 4) (pa_cons (pv 5) pa_nil))) (pe_call (ok__law_point W) (hr.mono (by first | decide | omega)) rfl W.D__law_point.g W.D__law_point.F.kp W.D__law_point.b .nil pass0 (pa_cons (pe_op op_sub pe_int (pv 4)) (pa_cons (pe_op op_sub pe_int (pv 5)) pa_nil)))))
      (Evl.pss_cut (ps_if (PW.pt (pw_or (pt_not (pt_val (pe_call (ok__law_is_pair W) (hr.mono (by first | decide | omega)) rfl W.D__law_is_pair.g W.D__law_is_pair.F.kp W.D__law_is_pair.b .nil pass0 (pa_cons (pe_call (ok_make_point W R bI) (hr.mono (by first | decide | omega)) rfl W.D_make_point.g W.D_make_point.F.kp W.D_make_point.b .nil pass0X (pa_cons (pv 4) (pa_cons (pv 5) pa_nil))) pa_nil)))) (pw_or1 (pt_cmpR (k_neD K hu64) (pe_call (ok_make_point W R bI) (hr.mono (by first | decide | omega)) rfl W.D_make_point.g W.D_make_point.F.kp W.D_make_point.b .nil pass0X (pa_cons (pv 4) (pa_cons (pv 5) pa_nil))) (pv 7) (nomark _)))))
         (pss_one (ps_ret pe_bl))
         pss_nil)
      (Evl.pss_cut (ps_if (PW.pt (pw_or (pt_cmpR (k_neD K hu64) (pe_call (ok_make_point W R bI) (hr.mono (by first | decide | omega)) rfl W.D_make_point.g W.D_make_point.F.kp W.D_make_point.b .nil pass0X (pa_cons (pe_op op_mulK (pv 4) (pv 6)) (pa_cons (pe_op op_mulK (pv 5) (pv 6)) pa_nil))) (pv 7) (nomark _)) (pw_or1 (pt_cmpR (k_neD K hu64) (pe_call (ok_make_point W R bI) (hr.mono (by first | decide | omega)) rfl W.D_make_point.g W.D_make_point.F.kp W.D_make_point.b .nil pass0X (pa_cons (pe_op op_sub pe_int (pe_op op_mulK (pv 4) (pv 6))) (pa_cons (pe_op op_sub pe_int (pe_op op_mulK (pv 5) (pv 6))) pa_nil))) (pv 7) (nomark _)))))
         (pss_one (ps_ret pe_bl))
         pss_nil)
      (Evl.pss_cut (ps_if (PW.pt (pw_or (pt_cmpR (k_neD K hu64) (pe_call (ok_make_point W R bI) (hr.mono (by first | decide | omega)) rfl W.D_make_point.g W.D_make_point.F.kp W.D_make_point.b .nil pass0X (pa_cons (pe_op op_sub pe_int (pv 4)) (pa_cons (pv 5) pa_nil))) (pe_tup (pa_cons (pe_op op_sub pe_int (pe_ix (k_ixT K) (pv 7) pe_int (fun _ _ => rfl))) (pa_cons (pe_ix (k_ixT K) (pv 7) pe_int (fun _ _ => rfl)) pa_nil))) (nomark _)) (pw_or1 (pt_cmpR (k_neD K hu64) (pe_call (ok_make_point W R bI) (hr.mono (by first | decide | omega)) rfl W.D_make_point.g W.D_make_point.F.kp W.D_make_point.b .nil pass0X (pa_cons pe_int (pa_cons (pv 5) pa_nil))) (pe_tup (pa_cons pe_int (pa_cons pe_int pa_nil))) (nomark _)))))
         (pss_one (ps_ret pe_bl))
         pss_nil)
      (Evl.pss_cut (ps_expr (e_bm K (pe_bm PySem.F.plainAttrs_list PySem.F.slot_list_append PySem.F.type_list_append mt_append (pv 2) (pa_cons (pv 7) pa_nil))))
      (pss_one (ps_expr (e_bm K (pe_bm PySem.F.plainAttrs_list PySem.F.slot_list_append PySem.F.type_list_append mt_append (pv 2) (pa_cons (pe_call (ok__law_point W) (hr.mono (by first | decide | omega)) rfl W.D__law_point.g W.D__law_point.F.kp W.D__law_point.b .nil pass0 (pa_cons (pe_op op_add (pe_ix (k_ixT K) (pv 7) pe_int (fun _ _ => rfl)) pe_int) (pa_cons (pe_ix (k_ixT K) (pv 7) pe_int (fun _ _ => rfl)) pa_nil))) pa_nil)))))))))))))))
  (pss_cons (ps_for PassesOwn.never rfl (i_list K (pv 2)) (pg_name (i := 8) nd rfl (by first | exact Or.inl rfl | exact Or.inr rfl))
     (pss_one (ps_for PassesOwn.never rfl (i_list K (pv 2)) (pg_name (i := 9) nd rfl (by first | exact Or.inl rfl | exact Or.inr rfl))
         (Evl.pss_cut (ps_set (i := 10) nd rfl (by first | exact Or.inl rfl | exact Or.inr rfl) (pe_call (ok_is_before W) (hr.mono (by first | decide | omega)) rfl W.D_is_before.g W.D_is_before.F.kp W.D_is_before.b .nil pass0 (pa_cons (pv 8) (pa_cons (pv 9) pa_nil))))
          (pss_one (ps_if (PW.pt (pw_or (pt_not (pt_val (pe_callB (c_isi K) (by rfl) W.T.b_isinstance (by decide +kernel) (pa_cons (pv 10) (pa_cons (pe_bltn (v := .ty "bool") (u := .type "bool") (by rfl) W.T.b_bool (by decide +kernel) (by rfl)) pa_nil))))) (pw_or1 (pt_cmpR op_ne (pv 10) (pe_call (ok__law_less W) (hr.mono (by first | decide | omega)) rfl W.D__law_less.g W.D__law_less.F.kp W.D__law_less.b .nil pass0 (pa_cons (pv 8) (pa_cons (pv 9) pa_nil))) (nomark _)))))
             (pss_one (ps_ret pe_bl))
             pss_nil))))))
  (pss_one (ps_ret pe_bl))))))), ?_⟩
    simp only [tSeq, tIfS, tNext, tRet, tRetN, tAsg, tDrop, tPar, tCons, tNil, tCB, tVar, tC, tOp, rI, rI0, rU, tTest, tB, tTup, tLst, gName, tIf, tAnd, tOr, tNot, tAndV, tOrV, tNotV, tUn, tCall, tChain, tSl, tNoPart, tPart, tBM, tBM0, tDGet, sDPut, rIxT, rIxL, rMulK, rLenK, rLstK, tTruK, gTup, gCons, gNil, rEq, rNe, scal, tNever, rMulK, rGcd, L2.start, List.map, List.length, List.replicate, List.cons_append, List.nil_append, List.append_nil, List.set, List.set_cons_zero, List.set_cons_succ, List.getElem?_cons_succ, List.getElem?_cons_zero, Option.some.injEq, List.cons.injEq, V.int.injEq, V.str.injEq, V.bl.injEq, V.ref.injEq, and_true, true_and, exists_eq_left, exists_eq_left', exists_eq_right, exists_eq_right', exists_eq, exists_and_left, exists_and_right, and_assoc, exists_false, false_and, and_false, or_false, false_or, reduceCtorEq, Nat.reduceAdd, Nat.reduceSub, List.append_assoc, eq_self, if_true, if_false, Bool.false_eq_true, decide_eq_true_eq, List.length_cons, List.length_nil]
    refine ⟨a, ns, rfl, hS, hn, fun d c H1 k1 _ _ hS1 ndc => ?_⟩
    refine ⟨L0e K a d c 1, ?_, ?_⟩
    · simp only [tSeq, tIfS, tNext, tRet, tRetN, tAsg, tDrop, tPar, tCons, tNil, tCB, tVar, tC, tOp, rI, rI0, rU, tTest, tB, tTup, tLst, gName, tIf, tAnd, tOr, tNot, tAndV, tOrV, tNotV, tUn, tCall, tChain, tSl, tNoPart, tPart, tBM, tBM0, tDGet, sDPut, rIxT, rIxL, rMulK, rLenK, rLstK, tTruK, gTup, gCons, gNil, rEq, rNe, scal, tNever, rMulK, rGcd, L2.start, List.map, List.length, List.replicate, List.cons_append, List.nil_append, List.append_nil, List.set, List.set_cons_zero, List.set_cons_succ, List.getElem?_cons_succ, List.getElem?_cons_zero, Option.some.injEq, List.cons.injEq, V.int.injEq, V.str.injEq, V.bl.injEq, V.ref.injEq, and_true, true_and, exists_eq_left, exists_eq_left', exists_eq_right, exists_eq_right', exists_eq, exists_and_left, exists_and_right, and_assoc, exists_false, false_and, and_false, or_false, false_or, reduceCtorEq, Nat.reduceAdd, Nat.reduceSub, List.append_assoc, eq_self, if_true, if_false, Bool.false_eq_true, decide_eq_true_eq, List.length_cons, List.length_nil]
      refine ⟨by decide, fun t ht => ⟨by decide, fun kn hk => ⟨kn, (hS1.new ht).d_ne hk, (hS1.new ht).c_ne hk, _, _, _, [(0, 1)], _, _, _, _, _, rfl, (hS1.new ht).new hk, ⟨⟨_, upd_same, .cons (dp_tk (Tk.new hk) (ptD (0, 1)) _ rfl (pt_mk (sqT_mk upd_same))) .nil⟩, fun x hx => ?_⟩, by simp, trivial⟩⟩⟩
      rw [List.mem_singleton.mp hx]
      exact ⟨⟨by decide, by decide⟩, abs_mono (m := 10) (by decide) (by omega), abs_mono (m := 10) (by decide) (by omega)⟩
    rintro σ H2 ⟨kn, ndk, nck, h2⟩
    have nm : ¬ Mdc d c kn := fun z => z.elim (fun z => ndk z.symm) (fun z => nck z.symm)
    refine ⟨L0 K a d c kn 1, ?_, ?_⟩
    · obtain ⟨c4, c5, c6, l, v3, v7, v8, v9, v10, rfl, hS2, hK2, hl2, _⟩ := h2
      simp only [tSeq, tIfS, tNext, tRet, tRetN, tAsg, tDrop, tPar, tCons, tNil, tCB, tVar, tC, tOp, rI, rI0, rU, tTest, tB, tTup, tLst, gName, tIf, tAnd, tOr, tNot, tAndV, tOrV, tNotV, tUn, tCall, tChain, tSl, tNoPart, tPart, tBM, tBM0, tDGet, sDPut, rIxT, rIxL, rMulK, rLenK, rLstK, tTruK, gTup, gCons, gNil, rEq, rNe, scal, tNever, rMulK, rGcd, L2.start, List.map, List.length, List.replicate, List.cons_append, List.nil_append, List.append_nil, List.set, List.set_cons_zero, List.set_cons_succ, List.getElem?_cons_succ, List.getElem?_cons_zero, Option.some.injEq, List.cons.injEq, V.int.injEq, V.str.injEq, V.bl.injEq, V.ref.injEq, and_true, true_and, exists_eq_left, exists_eq_left', exists_eq_right, exists_eq_right', exists_eq, exists_and_left, exists_and_right, and_assoc, exists_false, false_and, and_false, or_false, false_or, reduceCtorEq, Nat.reduceAdd, Nat.reduceSub, List.append_assoc, eq_self, if_true, if_false, Bool.false_eq_true, decide_eq_true_eq, List.length_cons, List.length_nil]
      refine ⟨rfl, fun H3 k3 => ⟨true, rfl, ?_⟩⟩
      rw [if_neg (by simp)]
      exact ⟨c4, c5, c6, l, v3, v7, v8, v9, v10, rfl, hS2.keep k3, hK2.keep0 k3, hl2, trivial⟩
    clear h2
    rintro σ H3 h3
    refine ⟨L0 K a d c kn 11, ?_, ?_⟩
    · refine tforR ?_
      obtain ⟨c4, c5, c6, l, v3, v7, v8, v9, v10, rfl, hS3, hK3, hl3, _⟩ := h3
      simp only [tSeq, tIfS, tNext, tRet, tRetN, tAsg, tDrop, tPar, tCons, tNil, tCB, tVar, tC, tOp, rI, rI0, rU, tTest, tB, tTup, tLst, gName, tIf, tAnd, tOr, tNot, tAndV, tOrV, tNotV, tUn, tCall, tChain, tSl, tNoPart, tPart, tBM, tBM0, tDGet, sDPut, rIxT, rIxL, rMulK, rLenK, rLstK, tTruK, gTup, gCons, gNil, rEq, rNe, scal, tNever, rMulK, rGcd, L2.start, List.map, List.length, List.replicate, List.cons_append, List.nil_append, List.append_nil, List.set, List.set_cons_zero, List.set_cons_succ, List.getElem?_cons_succ, List.getElem?_cons_zero, Option.some.injEq, List.cons.injEq, V.int.injEq, V.str.injEq, V.bl.injEq, V.ref.injEq, and_true, true_and, exists_eq_left, exists_eq_left', exists_eq_right, exists_eq_right', exists_eq, exists_and_left, exists_and_right, and_assoc, exists_false, false_and, and_false, or_false, false_or, reduceCtorEq, Nat.reduceAdd, Nat.reduceSub, List.append_assoc, eq_self, if_true, if_false, Bool.false_eq_true, decide_eq_true_eq, List.length_cons, List.length_nil]
      refine ⟨_, rfl, by omega, by omega, ?_⟩
      rw [show Int.toNat 5 = 5 from rfl]
      refine for_range (n := 5) (lo := 0) (fun i => L0 K a d c kn (1 + 2 * i)) ⟨_, _, _, _, _, _, _, _, _, rfl, hS3, hK3, hl3, trivial⟩ ?_ (fun σ H h => h)
      clear hS3 hK3 hl3
      rintro i σ H4 hi ⟨c4, c5, c6, l, v3, v7, v8, v9, v10, rfl, hS4, hK4, hl4, _⟩
      refine ⟨L1 K a d c kn (1 + 2 * i), ?_, ?_⟩
      · simp only [tSeq, tIfS, tNext, tRet, tRetN, tAsg, tDrop, tPar, tCons, tNil, tCB, tVar, tC, tOp, rI, rI0, rU, tTest, tB, tTup, tLst, gName, tIf, tAnd, tOr, tNot, tAndV, tOrV, tNotV, tUn, tCall, tChain, tSl, tNoPart, tPart, tBM, tBM0, tDGet, sDPut, rIxT, rIxL, rMulK, rLenK, rLstK, tTruK, gTup, gCons, gNil, rEq, rNe, scal, tNever, rMulK, rGcd, L2.start, List.map, List.length, List.replicate, List.cons_append, List.nil_append, List.append_nil, List.set, List.set_cons_zero, List.set_cons_succ, List.getElem?_cons_succ, List.getElem?_cons_zero, Option.some.injEq, List.cons.injEq, V.int.injEq, V.str.injEq, V.bl.injEq, V.ref.injEq, and_true, true_and, exists_eq_left, exists_eq_left', exists_eq_right, exists_eq_right', exists_eq, exists_and_left, exists_and_right, and_assoc, exists_false, false_and, and_false, or_false, false_or, reduceCtorEq, Nat.reduceAdd, Nat.reduceSub, List.append_assoc, eq_self, if_true, if_false, Bool.false_eq_true, decide_eq_true_eq, List.length_cons, List.length_nil]
        refine ⟨d, c, rfl, hS4, ndc, fun p H5 bp k5 hS5 => ?_⟩
        refine ⟨d, c, rfl, hS5, ndc, fun q H6 bq k6 hS6 => ?_⟩
        exact ⟨p, q, _, bp, bq, l, _, _, _, _, _, rfl, hS6, (hK4.keep k5 (hS4.tk k5) nm).keep k6 (hS5.tk k6) nm, hl4, trivial⟩
      rintro σ H5 ⟨p, q, c6, bp, bq, l, v3, v7, v8, v9, v10, rfl, hS5, hK5, hl5, _⟩
      refine ⟨L2' K a d c kn (1 + 2 * i) p q, ?_, ?_⟩
      · simp only [tSeq, tIfS, tNext, tRet, tRetN, tAsg, tDrop, tPar, tCons, tNil, tCB, tVar, tC, tOp, rI, rI0, rU, tTest, tB, tTup, tLst, gName, tIf, tAnd, tOr, tNot, tAndV, tOrV, tNotV, tUn, tCall, tChain, tSl, tNoPart, tPart, tBM, tBM0, tDGet, sDPut, rIxT, rIxL, rMulK, rLenK, rLstK, tTruK, gTup, gCons, gNil, rEq, rNe, scal, tNever, rMulK, rGcd, L2.start, List.map, List.length, List.replicate, List.cons_append, List.nil_append, List.append_nil, List.set, List.set_cons_zero, List.set_cons_succ, List.getElem?_cons_succ, List.getElem?_cons_zero, Option.some.injEq, List.cons.injEq, V.int.injEq, V.str.injEq, V.bl.injEq, V.ref.injEq, and_true, true_and, exists_eq_left, exists_eq_left', exists_eq_right, exists_eq_right', exists_eq, exists_and_left, exists_and_right, and_assoc, exists_false, false_and, and_false, or_false, false_or, reduceCtorEq, Nat.reduceAdd, Nat.reduceSub, List.append_assoc, eq_self, if_true, if_false, Bool.false_eq_true, decide_eq_true_eq, List.length_cons, List.length_nil]
        refine ⟨d, c, 1000, rfl, hS5, ndc, by decide, fun r H6 r0 r1 k6 hS6 => ⟨r, rfl, by decide, fun t ht => ?_⟩⟩
        have hS7 := hS6.new (o := .lst [.int (1 + r), .int 1000003, .int 1018081]) ht
        have ndt := hS6.d_ne ht
        have nct := hS6.c_ne ht
        have nmt : ¬ Mdc d c t := fun z => z.elim (fun z => ndt z.symm) (fun z => nct z.symm)
        have hK7 := (hK5.keep k6 (hS5.tk k6) nm).keep0 (Kp.new (o := .lst [.int (1 + r), .int 1000003, .int 1018081]) ht)
        refine ⟨d, c, 3, rfl, hS7, ndc, by decide, fun j H8 j0 j1 k8 hS8 => ?_⟩
        have ht8 := k8 t _ upd_same nmt
        have pick : ∃ fac : Int, atI [V.int (1 + r), V.int 1000003, V.int 1018081] j = some (.int fac) ∧ 0 < fac ∧ fac < 2 ^ 30 := by
          rcases (by omega : j = 0 ∨ j = 1 ∨ j = 2) with rfl | rfl | rfl
          · exact ⟨1 + r, rfl, by omega, by omega⟩
          · exact ⟨1000003, rfl, by decide, by decide⟩
          · exact ⟨1018081, rfl, by decide, by decide⟩
        obtain ⟨fac, ef, f0, f1⟩ := pick
        exact ⟨_, j, rfl, sqL_mk ht8, _, ef, fac, f0, f1, l, _, _, _, _, _, rfl, hS8, hK7.keep k8 (hS7.tk k8) nm, hl5, trivial⟩
      rintro σ H6 ⟨fac, f0, f1, l, v3, v7, v8, v9, v10, rfl, hS6, hK6, hl6, _⟩
      refine ⟨LB K a d c kn (1 + 2 * i) (some (.int p)) (some (.int q)) (some (.int fac)) (fun _ _ => True), ?_, ?_⟩
      · simp only [tSeq, tIfS, tNext, tRet, tRetN, tAsg, tDrop, tPar, tCons, tNil, tCB, tVar, tC, tOp, rI, rI0, rU, tTest, tB, tTup, tLst, gName, tIf, tAnd, tOr, tNot, tAndV, tOrV, tNotV, tUn, tCall, tChain, tSl, tNoPart, tPart, tBM, tBM0, tDGet, sDPut, rIxT, rIxL, rMulK, rLenK, rLstK, tTruK, gTup, gCons, gNil, rEq, rNe, scal, tNever, rMulK, rGcd, L2.start, List.map, List.length, List.replicate, List.cons_append, List.nil_append, List.append_nil, List.set, List.set_cons_zero, List.set_cons_succ, List.getElem?_cons_succ, List.getElem?_cons_zero, Option.some.injEq, List.cons.injEq, V.int.injEq, V.str.injEq, V.bl.injEq, V.ref.injEq, and_true, true_and, exists_eq_left, exists_eq_left', exists_eq_right, exists_eq_right', exists_eq, exists_and_left, exists_and_right, and_assoc, exists_false, false_and, and_false, or_false, false_or, reduceCtorEq, Nat.reduceAdd, Nat.reduceSub, List.append_assoc, eq_self, if_true, if_false, Bool.false_eq_true, decide_eq_true_eq, List.length_cons, List.length_nil]
        refine ⟨p, rfl, fun H7 k7 => ⟨true, rfl, ?_⟩⟩
        rw [if_neg (by simp)]
        exact ⟨l, _, _, _, _, _, rfl, hS6.keep k7, hK6.keep0 k7, hl6, trivial⟩
      rintro σ H7 ⟨l, v3, v7, v8, v9, v10, rfl, hS7, hK7, hl7, _⟩
      refine ⟨L4 K a d c kn (1 + 2 * i) p fac, ?_, ?_⟩
      · simp only [tSeq, tIfS, tNext, tRet, tRetN, tAsg, tDrop, tPar, tCons, tNil, tCB, tVar, tC, tOp, rI, rI0, rU, tTest, tB, tTup, tLst, gName, tIf, tAnd, tOr, tNot, tAndV, tOrV, tNotV, tUn, tCall, tChain, tSl, tNoPart, tPart, tBM, tBM0, tDGet, sDPut, rIxT, rIxL, rMulK, rLenK, rLstK, tTruK, gTup, gCons, gNil, rEq, rNe, scal, tNever, rMulK, rGcd, L2.start, List.map, List.length, List.replicate, List.cons_append, List.nil_append, List.append_nil, List.set, List.set_cons_zero, List.set_cons_succ, List.getElem?_cons_succ, List.getElem?_cons_zero, Option.some.injEq, List.cons.injEq, V.int.injEq, V.str.injEq, V.bl.injEq, V.ref.injEq, and_true, true_and, exists_eq_left, exists_eq_left', exists_eq_right, exists_eq_right', exists_eq, exists_and_left, exists_and_right, and_assoc, exists_false, false_and, and_false, or_false, false_or, reduceCtorEq, Nat.reduceAdd, Nat.reduceSub, List.append_assoc, eq_self, if_true, if_false, Bool.false_eq_true, decide_eq_true_eq, List.length_cons, List.length_nil]
        refine ite2 (fun z => ?_) (fun z => ?_)
        · exact ⟨q, by simpa using z, bq, l, _, _, _, _, _, rfl, hS7, hK7, hl7, trivial⟩
        · exact ⟨1, by decide, by omega, l, _, _, _, _, _, rfl, hS7, hK7, hl7, trivial⟩
      clear bq hS4 hK4 hl4 hS5 hK5 hl5 hS6 hK6 hl6
      rintro σ H8 ⟨q, q0, bq, l, v3, v7, v8, v9, v10, rfl, hS8, hK8, hl8, _⟩
      refine ⟨LB K a d c kn (1 + 2 * i) (some (.int p)) (some (.int q)) (some (.int fac)) (dueAt K p q), ?_, ?_⟩
      · simp only [tSeq, tIfS, tNext, tRet, tRetN, tAsg, tDrop, tPar, tCons, tNil, tCB, tVar, tC, tOp, rI, rI0, rU, tTest, tB, tTup, tLst, gName, tIf, tAnd, tOr, tNot, tAndV, tOrV, tNotV, tUn, tCall, tChain, tSl, tNoPart, tPart, tBM, tBM0, tDGet, sDPut, rIxT, rIxL, rMulK, rLenK, rLstK, tTruK, gTup, gCons, gNil, rEq, rNe, scal, tNever, rMulK, rGcd, L2.start, List.map, List.length, List.replicate, List.cons_append, List.nil_append, List.append_nil, List.set, List.set_cons_zero, List.set_cons_succ, List.getElem?_cons_succ, List.getElem?_cons_zero, Option.some.injEq, List.cons.injEq, V.int.injEq, V.str.injEq, V.bl.injEq, V.ref.injEq, and_true, true_and, exists_eq_left, exists_eq_left', exists_eq_right, exists_eq_right', exists_eq, exists_and_left, exists_and_right, and_assoc, exists_false, false_and, and_false, or_false, false_or, reduceCtorEq, Nat.reduceAdd, Nat.reduceSub, List.append_assoc, eq_self, if_true, if_false, Bool.false_eq_true, decide_eq_true_eq, List.length_cons, List.length_nil]
        refine ite2 (fun z => ?_) (fun z => ?_)
        · refine ⟨p, q, rfl, z, abs_mono bq (by omega), fun v H9 k9 dv => ⟨l, _, _, _, _, _, rfl, hS8.keep k9, hK8.keep0 k9, hl8, v, rfl, ?_⟩⟩
          rw [mkP_pos z]; exact dv
        · refine ⟨0 - p, 0 - q, rfl, by omega, abs_mono (m := 101) (by omega) (by omega), fun v H9 k9 dv => ⟨l, _, _, _, _, _, rfl, hS8.keep k9, hK8.keep0 k9, hl8, v, rfl, ?_⟩⟩
          rw [mkP_neg z, show -p = 0 - p by omega, show -q = 0 - q by omega]; exact dv
      rintro σ H9 ⟨l, v3, v7, v8, v9, v10, rfl, hS9, hK9, hl9, u, rfl, du⟩
      refine ⟨LB K a d c kn (1 + 2 * i) (some (.int p)) (some (.int q)) (some (.int fac)) (dueAt K p q), ?_, ?_⟩
      · simp only [tSeq, tIfS, tNext, tRet, tRetN, tAsg, tDrop, tPar, tCons, tNil, tCB, tVar, tC, tOp, rI, rI0, rU, tTest, tB, tTup, tLst, gName, tIf, tAnd, tOr, tNot, tAndV, tOrV, tNotV, tUn, tCall, tChain, tSl, tNoPart, tPart, tBM, tBM0, tDGet, sDPut, rIxT, rIxL, rMulK, rLenK, rLstK, tTruK, gTup, gCons, gNil, rEq, rNe, scal, tNever, rMulK, rGcd, L2.start, List.map, List.length, List.replicate, List.cons_append, List.nil_append, List.append_nil, List.set, List.set_cons_zero, List.set_cons_succ, List.getElem?_cons_succ, List.getElem?_cons_zero, Option.some.injEq, List.cons.injEq, V.int.injEq, V.str.injEq, V.bl.injEq, V.ref.injEq, and_true, true_and, exists_eq_left, exists_eq_left', exists_eq_right, exists_eq_right', exists_eq, exists_and_left, exists_and_right, and_assoc, exists_false, false_and, and_false, or_false, false_or, reduceCtorEq, Nat.reduceAdd, Nat.reduceSub, List.append_assoc, eq_self, if_true, if_false, Bool.false_eq_true, decide_eq_true_eq, List.length_cons, List.length_nil]
        refine ⟨p, q, rfl, abs_mono bq (by omega), fun _ t1 H10 k10 e10 => ?_, fun z => absurd z q0⟩
        refine ⟨_, mkP p q, rfl, pt_mk (sqT_mk e10), ⟨t1, rfl, e10⟩, fun H11 k11 => ⟨true, rfl, ?_⟩⟩
        rw [if_neg (by simp)]
        refine ⟨p, q, rfl, abs_mono bq (by omega), fun _ t2 H12 k12 e12 => ?_, fun z => absurd z q0⟩
        have kk := (k10.trans k11).trans k12
        refine ⟨_, _, pt_mk (p := (mkP p q).1) (q := (mkP p q).2) (sqT_mk e12), dp_tk (Tk.of0 kk) _ _ rfl du, ptD_shaped _, ptD_shaped _, _, rfl, ?_⟩
        rw [if_neg (by rw [ptD_eqv]; simp)]
        exact ⟨l, _, _, _, _, _, rfl, hS9.keep kk, hK9.keep0 kk, hl9, u, rfl, dp_tk (Tk.of0 kk) _ _ rfl du⟩
      rintro σ H10 ⟨l, v3, v7, v8, v9, v10, rfl, hS10, hK10, hl10, u, rfl, du⟩
      refine ⟨LB K a d c kn (1 + 2 * i) (some (.int p)) (some (.int q)) (some (.int fac)) (dueAt K p q), ?_, ?_⟩
      · simp only [tSeq, tIfS, tNext, tRet, tRetN, tAsg, tDrop, tPar, tCons, tNil, tCB, tVar, tC, tOp, rI, rI0, rU, tTest, tB, tTup, tLst, gName, tIf, tAnd, tOr, tNot, tAndV, tOrV, tNotV, tUn, tCall, tChain, tSl, tNoPart, tPart, tBM, tBM0, tDGet, sDPut, rIxT, rIxL, rMulK, rLenK, rLstK, tTruK, gTup, gCons, gNil, rEq, rNe, scal, tNever, rMulK, rGcd, L2.start, List.map, List.length, List.replicate, List.cons_append, List.nil_append, List.append_nil, List.set, List.set_cons_zero, List.set_cons_succ, List.getElem?_cons_succ, List.getElem?_cons_zero, Option.some.injEq, List.cons.injEq, V.int.injEq, V.str.injEq, V.bl.injEq, V.ref.injEq, and_true, true_and, exists_eq_left, exists_eq_left', exists_eq_right, exists_eq_right', exists_eq, exists_and_left, exists_and_right, and_assoc, exists_false, false_and, and_false, or_false, false_or, reduceCtorEq, Nat.reduceAdd, Nat.reduceSub, List.append_assoc, eq_self, if_true, if_false, Bool.false_eq_true, decide_eq_true_eq, List.length_cons, List.length_nil]
        have bf : fac.natAbs < 2 ^ 30 := by omega
        have bqf : (q * fac).natAbs < 2 ^ 8000 := abs_mono (abs_mul_lt bq bf) (by omega)
        have nz : q * fac ≠ 0 := Int.mul_ne_zero q0 (by omega)
        refine ⟨mulOk_r (by omega) (by omega), mulOk_r (by omega) (by omega), ?_⟩
        refine ⟨_, _, rfl, bqf, fun _ t1 H11 k11 e11 => ?_, fun z => absurd z nz⟩
        rw [mkP_mul q0 f0] at e11
        refine ⟨_, _, pt_mk (p := (mkP p q).1) (q := (mkP p q).2) (sqT_mk e11), dp_tk (Tk.of0 k11) _ _ rfl du, ptD_shaped _, ptD_shaped _, _, rfl, ?_⟩
        rw [if_neg (by rw [ptD_eqv]; simp)]
        refine ⟨mulOk_r (by omega) (by omega), mulOk_r (by omega) (by omega), ?_⟩
        refine ⟨_, _, rfl, by rw [show (0 - q * fac).natAbs = (q * fac).natAbs by omega]; exact bqf, fun _ t2 H12 k12 e12 => ?_, fun z => absurd z (by omega)⟩
        rw [mkP_flip nz, mkP_mul q0 f0] at e12
        have kk := k11.trans k12
        refine ⟨_, _, pt_mk (p := (mkP p q).1) (q := (mkP p q).2) (sqT_mk e12), dp_tk (Tk.of0 kk) _ _ rfl du, ptD_shaped _, ptD_shaped _, _, rfl, ?_⟩
        rw [if_neg (by rw [ptD_eqv]; simp)]
        exact ⟨l, _, _, _, _, _, rfl, hS10.keep kk, hK10.keep0 kk, hl10, u, rfl, dp_tk (Tk.of0 kk) _ _ rfl du⟩
      rintro σ H11 ⟨l, v3, v7, v8, v9, v10, rfl, hS11, hK11, hl11, u, rfl, du⟩
      refine ⟨LB K a d c kn (1 + 2 * i) (some (.int p)) (some (.int q)) (some (.int fac)) (dueAt K p q), ?_, ?_⟩
      · simp only [tSeq, tIfS, tNext, tRet, tRetN, tAsg, tDrop, tPar, tCons, tNil, tCB, tVar, tC, tOp, rI, rI0, rU, tTest, tB, tTup, tLst, gName, tIf, tAnd, tOr, tNot, tAndV, tOrV, tNotV, tUn, tCall, tChain, tSl, tNoPart, tPart, tBM, tBM0, tDGet, sDPut, rIxT, rIxL, rMulK, rLenK, rLstK, tTruK, gTup, gCons, gNil, rEq, rNe, scal, tNever, rMulK, rGcd, L2.start, List.map, List.length, List.replicate, List.cons_append, List.nil_append, List.append_nil, List.set, List.set_cons_zero, List.set_cons_succ, List.getElem?_cons_succ, List.getElem?_cons_zero, Option.some.injEq, List.cons.injEq, V.int.injEq, V.str.injEq, V.bl.injEq, V.ref.injEq, and_true, true_and, exists_eq_left, exists_eq_left', exists_eq_right, exists_eq_right', exists_eq, exists_and_left, exists_and_right, and_assoc, exists_false, false_and, and_false, or_false, false_or, reduceCtorEq, Nat.reduceAdd, Nat.reduceSub, List.append_assoc, eq_self, if_true, if_false, Bool.false_eq_true, decide_eq_true_eq, List.length_cons, List.length_nil]
        refine ⟨0 - p, q, rfl, abs_mono bq (by omega), fun _ t1 H12 k12 e12 => ?_, fun z => absurd z q0⟩
        rw [mkP_negp q0] at e12
        obtain ⟨ad, rfl, had⟩ := pt_of du
        have had2 := sqT_tk (Tk.of0 k12) had
        refine ⟨ad, rfl, _, had2, _, atI_nat (j := 0) rfl, _, rfl, ad, rfl, _, had2, _, atI_nat (j := 1) rfl, by decide, fun t2 ht2 => ?_⟩
        have k13 := Kp.new (M := M0) (o := .tup [.int (0 - (mkP p q).1), .int (mkP p q).2]) ht2
        refine ⟨_, _, pt_mk (p := 0 - (mkP p q).1) (q := (mkP p q).2) (sqT_mk (k13 t1 _ e12 (fun z => z))), pt_mk (p := 0 - (mkP p q).1) (q := (mkP p q).2) (sqT_mk upd_same), ptD_shaped _, ptD_shaped _, _, rfl, ?_⟩
        rw [if_neg (by rw [ptD_eqv]; simp)]
        refine ⟨0, q, rfl, abs_mono bq (by omega), fun _ t3 H14 k14 e14 => ?_, fun z => absurd z q0⟩
        rw [mkP_zero q0] at e14
        refine ⟨by decide, fun t4 ht4 => ?_⟩
        have k15 := Kp.new (M := M0) (o := .tup [.int 0, .int 1]) ht4
        refine ⟨_, _, pt_mk (p := 0) (q := 1) (sqT_mk (k15 t3 _ e14 (fun z => z))), pt_mk (p := 0) (q := 1) (sqT_mk upd_same), ptD_shaped _, ptD_shaped _, _, rfl, ?_⟩
        rw [if_neg (by rw [ptD_eqv]; simp)]
        have kk := ((k12.trans k13).trans k14).trans k15
        exact ⟨l, _, _, _, _, _, rfl, hS11.keep kk, hK11.keep0 kk, hl11, _, rfl, dp_tk (Tk.of0 kk) _ _ rfl du⟩
      rintro σ H12 ⟨l, v3, v7, v8, v9, v10, rfl, hS12, hK12, hl12, u, rfl, du⟩
      refine ⟨LB K a d c kn (2 + 2 * i) (some (.int p)) (some (.int q)) (some (.int fac)) (dueAt K p q), ?_, ?_⟩
      · simp only [tSeq, tIfS, tNext, tRet, tRetN, tAsg, tDrop, tPar, tCons, tNil, tCB, tVar, tC, tOp, rI, rI0, rU, tTest, tB, tTup, tLst, gName, tIf, tAnd, tOr, tNot, tAndV, tOrV, tNotV, tUn, tCall, tChain, tSl, tNoPart, tPart, tBM, tBM0, tDGet, sDPut, rIxT, rIxL, rMulK, rLenK, rLstK, tTruK, gTup, gCons, gNil, rEq, rNe, scal, tNever, rMulK, rGcd, L2.start, List.map, List.length, List.replicate, List.cons_append, List.nil_append, List.append_nil, List.set, List.set_cons_zero, List.set_cons_succ, List.getElem?_cons_succ, List.getElem?_cons_zero, Option.some.injEq, List.cons.injEq, V.int.injEq, V.str.injEq, V.bl.injEq, V.ref.injEq, and_true, true_and, exists_eq_left, exists_eq_left', exists_eq_right, exists_eq_right', exists_eq, exists_and_left, exists_and_right, and_assoc, exists_false, false_and, and_false, or_false, false_or, reduceCtorEq, Nat.reduceAdd, Nat.reduceSub, List.append_assoc, eq_self, if_true, if_false, Bool.false_eq_true, decide_eq_true_eq, List.length_cons, List.length_nil]
        obtain ⟨us, e1, e2⟩ := hK12.at'
        have ul : us.length = l.length := by rw [dps_len e2, List.length_map]
        have tk := Tk.lst (o := .lst (us ++ [u])) e1
        refine ⟨Or.inl ⟨rfl, us, sqL_mk e1⟩, kn, us, u, rfl, rfl, e1, by rw [sizeLine_eq]; omega, ?_⟩
        refine ⟨l ++ [mkP p q], _, _, _, _, _, rfl, hS12.other ndk nck, ⟨⟨_, upd_same, ?_⟩, fun x hx => ?_⟩, by rw [List.length_append, List.length_singleton]; omega, u, rfl, dp_tk tk _ _ rfl du⟩
        · rw [List.map_append]
          exact dps_app (dps_tk tk _ _ (ptDs_tup l) e2) (.cons (dp_tk tk _ _ rfl du) .nil)
        · rcases List.mem_append.mp hx with hx | hx
          · exact hK12.ok x hx
          · rw [List.mem_singleton.mp hx]
            exact ⟨mkP_ok q0, (mkP_sz q0 bp bq).mono (by omega)⟩
      rintro σ H13 ⟨l, v3, v7, v8, v9, v10, rfl, hS13, hK13, hl13, u, rfl, du⟩
      simp only [tSeq, tIfS, tNext, tRet, tRetN, tAsg, tDrop, tPar, tCons, tNil, tCB, tVar, tC, tOp, rI, rI0, rU, tTest, tB, tTup, tLst, gName, tIf, tAnd, tOr, tNot, tAndV, tOrV, tNotV, tUn, tCall, tChain, tSl, tNoPart, tPart, tBM, tBM0, tDGet, sDPut, rIxT, rIxL, rMulK, rLenK, rLstK, tTruK, gTup, gCons, gNil, rEq, rNe, scal, tNever, rMulK, rGcd, L2.start, List.map, List.length, List.replicate, List.cons_append, List.nil_append, List.append_nil, List.set, List.set_cons_zero, List.set_cons_succ, List.getElem?_cons_succ, List.getElem?_cons_zero, Option.some.injEq, List.cons.injEq, V.int.injEq, V.str.injEq, V.bl.injEq, V.ref.injEq, and_true, true_and, exists_eq_left, exists_eq_left', exists_eq_right, exists_eq_right', exists_eq, exists_and_left, exists_and_right, and_assoc, exists_false, false_and, and_false, or_false, false_or, reduceCtorEq, Nat.reduceAdd, Nat.reduceSub, List.append_assoc, eq_self, if_true, if_false, Bool.false_eq_true, decide_eq_true_eq, List.length_cons, List.length_nil]
      obtain ⟨ad, rfl, had⟩ := pt_of du
      obtain ⟨us, e1, e2⟩ := hK13.at'
      refine ⟨Or.inl ⟨rfl, us, sqL_mk e1⟩, ad, rfl, _, had, _, atI_nat (j := 0) rfl, _, rfl, ad, rfl, _, had, _, atI_nat (j := 1) rfl, ?_⟩
      have od := mkP_ok (p := p) q0
      have sd := mkP_sz q0 bp bq
      refine ⟨_, _, rfl, od.pos, abs_mono sd.2 (by omega), fun v H14 k14 dv => ?_⟩
      have e14 := k14 kn _ e1 (fun z => z)
      have ul : us.length = l.length := by rw [dps_len e2, List.length_map]
      have tk := Tk.lst (o := .lst (us ++ [v])) e14
      refine ⟨kn, us, v, rfl, rfl, e14, by rw [sizeLine_eq]; omega, ?_⟩
      refine ⟨_, _, _, l ++ [normP ((mkP p q).1 + 1) (mkP p q).2], _, _, _, _, _, rfl, (hS13.keep k14).other ndk nck, ⟨⟨_, upd_same, ?_⟩, fun x hx => ?_⟩, by rw [List.length_append, List.length_singleton]; omega, trivial⟩
      · rw [List.map_append]
        exact dps_app (dps_tk tk _ _ (ptDs_tup l) (dps_tk (Tk.of0 k14) _ _ (ptDs_tup l) e2)) (.cons (dp_tk tk _ _ rfl dv) .nil)
      · rcases List.mem_append.mp hx with hx | hx
        · exact hK13.ok x hx
        · rw [List.mem_singleton.mp hx]
          exact ⟨norm_ok od.pos, norm_sz od.pos (abs_mono (abs_add_lt sd.1 (abs_mono (m := 10) (by decide) (by omega))) (by omega)) (abs_mono sd.2 (by omega))⟩
    rintro σ H4 ⟨c4, c5, c6, l, v3, v7, v8, v9, v10, rfl, hS4, hK4, hl4, _⟩
    obtain ⟨us, e1, e2⟩ := hK4.at'
    have ul : us.length = l.length := by rw [dps_len e2, List.length_map]
    refine tforL ?_
    simp only [tSeq, tIfS, tNext, tRet, tRetN, tAsg, tDrop, tPar, tCons, tNil, tCB, tVar, tC, tOp, rI, rI0, rU, tTest, tB, tTup, tLst, gName, tIf, tAnd, tOr, tNot, tAndV, tOrV, tNotV, tUn, tCall, tChain, tSl, tNoPart, tPart, tBM, tBM0, tDGet, sDPut, rIxT, rIxL, rMulK, rLenK, rLstK, tTruK, gTup, gCons, gNil, rEq, rNe, scal, tNever, rMulK, rGcd, L2.start, List.map, List.length, List.replicate, List.cons_append, List.nil_append, List.append_nil, List.set, List.set_cons_zero, List.set_cons_succ, List.getElem?_cons_succ, List.getElem?_cons_zero, Option.some.injEq, List.cons.injEq, V.int.injEq, V.str.injEq, V.bl.injEq, V.ref.injEq, and_true, true_and, exists_eq_left, exists_eq_left', exists_eq_right, exists_eq_right', exists_eq, exists_and_left, exists_and_right, and_assoc, exists_false, false_and, and_false, or_false, false_or, reduceCtorEq, Nat.reduceAdd, Nat.reduceSub, List.append_assoc, eq_self, if_true, if_false, Bool.false_eq_true, decide_eq_true_eq, List.length_cons, List.length_nil]
    refine ⟨kn, rfl, ⟨us, sqL_mk e1⟩, ?_⟩
    refine for_list (xs := us) (LE [some (.ref a), some (.ref d), some (.ref kn), v3, c4, c5, c6, v7] H4) ⟨v8, v9, v10, rfl, rfl⟩ ?_ ?_ ?_
    · rintro i σ H5 _ ⟨_, _, _, _, rfl⟩
      exact sqL_mk e1
    · rintro i u1 σ H5 hu1 ⟨v8, v9, v10, rfl, rfl⟩
      obtain ⟨d1, f1, g1⟩ := dps_get e2 hu1
      rw [List.getElem?_map] at f1
      obtain ⟨x, hx, rfl⟩ := Option.map_eq_some_iff.mp f1
      refine tforL ?_
      simp only [tSeq, tIfS, tNext, tRet, tRetN, tAsg, tDrop, tPar, tCons, tNil, tCB, tVar, tC, tOp, rI, rI0, rU, tTest, tB, tTup, tLst, gName, tIf, tAnd, tOr, tNot, tAndV, tOrV, tNotV, tUn, tCall, tChain, tSl, tNoPart, tPart, tBM, tBM0, tDGet, sDPut, rIxT, rIxL, rMulK, rLenK, rLstK, tTruK, gTup, gCons, gNil, rEq, rNe, scal, tNever, rMulK, rGcd, L2.start, List.map, List.length, List.replicate, List.cons_append, List.nil_append, List.append_nil, List.set, List.set_cons_zero, List.set_cons_succ, List.getElem?_cons_succ, List.getElem?_cons_zero, Option.some.injEq, List.cons.injEq, V.int.injEq, V.str.injEq, V.bl.injEq, V.ref.injEq, and_true, true_and, exists_eq_left, exists_eq_left', exists_eq_right, exists_eq_right', exists_eq, exists_and_left, exists_and_right, and_assoc, exists_false, false_and, and_false, or_false, false_or, reduceCtorEq, Nat.reduceAdd, Nat.reduceSub, List.append_assoc, eq_self, if_true, if_false, Bool.false_eq_true, decide_eq_true_eq, List.length_cons, List.length_nil]
      refine ⟨kn, rfl, ⟨us, sqL_mk e1⟩, ?_⟩
      refine for_list (xs := us) (LE8 [some (.ref a), some (.ref d), some (.ref kn), v3, c4, c5, c6, v7] u1 H5) ⟨v9, v10, rfl, rfl⟩ ?_ ?_ ?_
      · rintro j σ H6 _ ⟨_, _, _, rfl⟩
        exact sqL_mk e1
      · rintro j u2 σ H6 hu2 ⟨v9, v10, rfl, rfl⟩
        obtain ⟨d2, f2, g2⟩ := dps_get e2 hu2
        rw [List.getElem?_map] at f2
        obtain ⟨y, hy, rfl⟩ := Option.map_eq_some_iff.mp f2
        have ox := hK4.ok x (List.mem_of_getElem? hx)
        have oy := hK4.ok y (List.mem_of_getElem? hy)
        refine ⟨LE9 [some (.ref a), some (.ref d), some (.ref kn), v3, c4, c5, c6, v7] u1 u2 (decide (ltP x y)) H6, ?_, ?_⟩
        · simp only [tSeq, tIfS, tNext, tRet, tRetN, tAsg, tDrop, tPar, tCons, tNil, tCB, tVar, tC, tOp, rI, rI0, rU, tTest, tB, tTup, tLst, gName, tIf, tAnd, tOr, tNot, tAndV, tOrV, tNotV, tUn, tCall, tChain, tSl, tNoPart, tPart, tBM, tBM0, tDGet, sDPut, rIxT, rIxL, rMulK, rLenK, rLstK, tTruK, gTup, gCons, gNil, rEq, rNe, scal, tNever, rMulK, rGcd, L2.start, List.map, List.length, List.replicate, List.cons_append, List.nil_append, List.append_nil, List.set, List.set_cons_zero, List.set_cons_succ, List.getElem?_cons_succ, List.getElem?_cons_zero, Option.some.injEq, List.cons.injEq, V.int.injEq, V.str.injEq, V.bl.injEq, V.ref.injEq, and_true, true_and, exists_eq_left, exists_eq_left', exists_eq_right, exists_eq_right', exists_eq, exists_and_left, exists_and_right, and_assoc, exists_false, false_and, and_false, or_false, false_or, reduceCtorEq, Nat.reduceAdd, Nat.reduceSub, List.append_assoc, eq_self, if_true, if_false, Bool.false_eq_true, decide_eq_true_eq, List.length_cons, List.length_nil]
          exact ⟨u1, u2, x, y, rfl, g1, g2, ox.2.mono (by omega), oy.2.mono (by omega), rfl, rfl⟩
        rintro σ H7 ⟨rfl, rfl⟩
        simp only [tSeq, tIfS, tNext, tRet, tRetN, tAsg, tDrop, tPar, tCons, tNil, tCB, tVar, tC, tOp, rI, rI0, rU, tTest, tB, tTup, tLst, gName, tIf, tAnd, tOr, tNot, tAndV, tOrV, tNotV, tUn, tCall, tChain, tSl, tNoPart, tPart, tBM, tBM0, tDGet, sDPut, rIxT, rIxL, rMulK, rLenK, rLstK, tTruK, gTup, gCons, gNil, rEq, rNe, scal, tNever, rMulK, rGcd, L2.start, List.map, List.length, List.replicate, List.cons_append, List.nil_append, List.append_nil, List.set, List.set_cons_zero, List.set_cons_succ, List.getElem?_cons_succ, List.getElem?_cons_zero, Option.some.injEq, List.cons.injEq, V.int.injEq, V.str.injEq, V.bl.injEq, V.ref.injEq, and_true, true_and, exists_eq_left, exists_eq_left', exists_eq_right, exists_eq_right', exists_eq, exists_and_left, exists_and_right, and_assoc, exists_false, false_and, and_false, or_false, false_or, reduceCtorEq, Nat.reduceAdd, Nat.reduceSub, List.append_assoc, eq_self, if_true, if_false, Bool.false_eq_true, decide_eq_true_eq, List.length_cons, List.length_nil]
        refine ⟨_, V.ty "bool", .type "bool", .type "bool", true, rfl, .ty _, .base (.bl _), kitOne_same K "bool", true, rfl, ?_⟩
        rw [if_neg (by simp)]
        refine ⟨u1, u2, x, y, rfl, g1, g2, ox.2.mono (by omega), oy.2.mono (by omega), rfl, ?_⟩
        rw [if_neg (by simp)]
        exact ⟨_, _, rfl, rfl⟩
      · rintro σ H6 ⟨v9, v10, rfl, rfl⟩
        exact ⟨_, _, _, rfl, rfl⟩
    · rintro σ H5 ⟨v8, v9, v10, rfl, rfl⟩
      simp only [tSeq, tIfS, tNext, tRet, tRetN, tAsg, tDrop, tPar, tCons, tNil, tCB, tVar, tC, tOp, rI, rI0, rU, tTest, tB, tTup, tLst, gName, tIf, tAnd, tOr, tNot, tAndV, tOrV, tNotV, tUn, tCall, tChain, tSl, tNoPart, tPart, tBM, tBM0, tDGet, sDPut, rIxT, rIxL, rMulK, rLenK, rLstK, tTruK, gTup, gCons, gNil, rEq, rNe, scal, tNever, rMulK, rGcd, L2.start, List.map, List.length, List.replicate, List.cons_append, List.nil_append, List.append_nil, List.set, List.set_cons_zero, List.set_cons_succ, List.getElem?_cons_succ, List.getElem?_cons_zero, Option.some.injEq, List.cons.injEq, V.int.injEq, V.str.injEq, V.bl.injEq, V.ref.injEq, and_true, true_and, exists_eq_left, exists_eq_left', exists_eq_right, exists_eq_right', exists_eq, exists_and_left, exists_and_right, and_assoc, exists_false, false_and, and_false, or_false, false_or, reduceCtorEq, Nat.reduceAdd, Nat.reduceSub, List.append_assoc, eq_self, if_true, if_false, Bool.false_eq_true, decide_eq_true_eq, List.length_cons, List.length_nil]
      exact k _
end
end G
set_option Elab.async false
set_option linter.all false
set_option maxRecDepth 100000
set_option maxHeartbeats 2000000
set_option exponentiation.threshold 10000
namespace G
open PySem L2 NdefX
open PySem.W (kxs_mw KxsFacts)
abbrev leTail : List Value := [.type "LookupError", .type "Exception", .type "BaseException", .type "object"]
abbrev vaTail : List Value := [.type "ValueError", .type "Exception", .type "BaseException", .type "object"]
def sIniAt (i : Nat) : Stmt := (C8.clsBody (top i)).getD 0 (.Pass ⟨0, 0, 0, 0⟩)
/-- what stands written of an own error class of one field -/
structure ErrV (P : Program) (K : PySem.W.Frag) (mg : Str → Option Value) (bmB : List Value) (newId B i : String) (x : Str) (st : Stmt) (qual : Str) (C f cc cda : Addr) (fd : FuncData) (fld : Str) : Prop where
  g : mg x = some (.ref C)
  T : OxC K C bmB newId
  S : SupC K C B i
  M : Ini P K C f cc (iniF st qual cc cda) fd "self"
  iC : PySem.W.findIn K (.ref C) "__init__" = some (some (.ref f))
  tI : PySem.W.typeIn K (.ref f) = some (.type "function")
  X : XfC K C
  noC : PySem.W.findIn K (.ref C) "called" = some none
  noF : PySem.W.findIn K (.ref C) fld = some none
  sup : mg "super" = none
def sp_iniV (C : Addr) (fld x : Str) (n : Nat) : Sp := fun vs H Q _ => ∃ (a : Addr) (S : Addr → Prop) (v : V) (d : PyData), vs = [.ref a, v] ∧ H a = some (exo a C none) ∧ TrI H (fun b => S b ∧ b ≠ a) n v d ∧
  ∀ (v' : V) (dx : Addr) (H' : Hp), H dx = none → dx ≠ a → H' a = some (exo a C (some dx)) → H' dx = some (exd dx [(fld, v'), ("called", .str x)]) → (∀ b o, H b = some o → b ≠ a → H' b = some o) → TrI H' (fun b => H b = none ∧ b ≠ dx) n v' d → Q .non H'
section
variable {P : Program} {w : World} {K : PySem.W.Frag} {mg : Str → Option Value} {base : Heap}


theorem ns_BadName : NScope ["self", "name", "__class__"] ["self", "name"] ["__class__"] (C8.fnScope (sIniAt 8)) := nscope_by (by decide +kernel)
theorem sup_BadName : (C8.fnScope (sIniAt 8)).names.lookup ("super" : Str) = some .globalImplicit := by decide +kernel
theorem ok_BadName {C f cc cda : Addr} {fd : FuncData} (n : Nat) (hn : n ≤ 100) (W : Ds K mg) (R : ErrV P K mg vaTail "ValueError.__new__" "ValueError" "ValueError.__init__" "BadName" (sIniAt 8) "BadName.__init__" C f cc cda fd "name") : FnOk P w K mg base CX0 (n + 4) f fd ["self", "name"] (sp_iniV C "name" "BadName" n) := by
  refine ini_okG PySem.W.kxs_ValueError F.excBase_ValueError (N := ["self", "name", "__class__"]) R.M ns_BadName R.T R.S (by exact rfl) sup_BadName R.sup (fun vs H Q E h => ?_) (fun L => ⟨⟨_, by exact rfl⟩, by exact rfl, by exact rfl⟩) (fun A outer s H vs Q E hr h => ?_)
  · obtain ⟨a, S, v, d, rfl, _⟩ := h
    rfl
  · obtain ⟨a, S, v, d, rfl, ha, tr, k⟩ := h
    refine ⟨⟨a, _, rfl, ha⟩, _, (pss_cons (ps_ostG (bmB := vaTail) (newId := "ValueError.__new__") K F.store_ValueError (pv 0) pe_str) (pss_one (ps_ostG (bmB := vaTail) (newId := "ValueError.__new__") K F.store_ValueError (pv 0) (pe_call (ok_cp W n) (hr.mono (by omega)) rfl W.D_copied.g W.D_copied.F.kp W.D_copied.b .nil pass0 (pa_cons (pv 1) pa_nil))))), ?_⟩
    rw [show startF ["self", "name", "__class__"] [V.ref a, v] [none] = [some (.ref a), some v, none] from rfl]
    simp only [tOstG, tSeq, tIfS, tNext, tRet, tRetN, tAsg, tDrop, tPar, tCons, tNil, tCB, tVar, tC, tOp, rI, rI0, rU, tTest, tB, tTup, tLst, gName, tIf, tAnd, tOr, tNot, tAndV, tOrV, tNotV, tUn, tCall, tChain, tSl, tNoPart, tPart, tBM, tBM0, tDGet, sDPut, rIxT, rIxL, rMulK, rLenK, rLstK, tTruK, gTup, gCons, gNil, rEq, rNe, scal, tNever, rMulK, rGcd, L2.start, List.map, List.length, List.replicate, List.cons_append, List.nil_append, List.append_nil, List.set, List.set_cons_zero, List.set_cons_succ, List.getElem?_cons_succ, List.getElem?_cons_zero, Option.some.injEq, List.cons.injEq, V.int.injEq, V.str.injEq, V.bl.injEq, V.ref.injEq, and_true, true_and, exists_eq_left, exists_eq_left', exists_eq_right, exists_eq_right', exists_eq, exists_and_left, exists_and_right, and_assoc, exists_false, false_and, and_false, or_false, false_or, reduceCtorEq, Nat.reduceAdd, Nat.reduceSub, List.append_assoc, eq_self, if_true, if_false, Bool.false_eq_true, decide_eq_true_eq, List.length_cons, List.length_nil]
    refine ⟨C, R.T, R.noC, Or.inl ⟨ha, fun dx hdx nda => ?_⟩⟩
    have low : ∀ b o, H b = some o → b ≠ a → upd (upd H dx (exd dx [("called", V.str "BadName")])) a (exo a C (some dx)) b = some o := fun b o z nb => by rw [upd_ne nb, upd_ne (ne_of_none z hdx)]; exact z
    refine ⟨hn, (fun b => S b ∧ b ≠ a), v, d, rfl, tr.keep (fun b z => z) (fun b o z y => low b o y z.2), fun v' H1 k1 t1 => ?_⟩
    have ea := k1 a _ upd_same (fun z => z)
    have ed := k1 dx (exd dx [("called", V.str "BadName")]) (by rw [upd_ne nda]; exact upd_same) (fun z => z)
    refine ⟨C, R.T, R.noF, Or.inr ⟨dx, ea, _, ed, by simp, ?_⟩⟩
    have fr : ∀ b, upd (upd H dx (exd dx [("called", V.str "BadName")])) a (exo a C (some dx)) b = none → H b = none ∧ b ≠ dx := fun b z => by
      have nba : b ≠ a := fun y => by rw [y, upd_same] at z; cases z
      rw [upd_ne nba] at z
      have nbd : b ≠ dx := fun y => by rw [y, upd_same] at z; cases z
      rw [upd_ne nbd] at z
      exact ⟨z, nbd⟩
    refine k v' dx _ hdx nda (by rw [upd_ne (Ne.symm nda)]; exact ea) upd_same (fun b o z nb => ?_) (t1.keep fr fun b o z y => ?_)
    · rw [upd_ne (ne_of_none z hdx)]
      exact k1 b o (low b o z nb) (fun z => z)
    · rw [upd_ne (fr b z).2]; exact y

theorem ns_NoPoint : NScope ["self", "point", "__class__"] ["self", "point"] ["__class__"] (C8.fnScope (sIniAt 9)) := nscope_by (by decide +kernel)
theorem sup_NoPoint : (C8.fnScope (sIniAt 9)).names.lookup ("super" : Str) = some .globalImplicit := by decide +kernel
theorem ok_NoPoint {C f cc cda : Addr} {fd : FuncData} (n : Nat) (hn : n ≤ 100) (W : Ds K mg) (R : ErrV P K mg leTail "LookupError.__new__" "LookupError" "LookupError.__init__" "NoPoint" (sIniAt 9) "NoPoint.__init__" C f cc cda fd "point") : FnOk P w K mg base CX0 (n + 4) f fd ["self", "point"] (sp_iniV C "point" "NoPoint" n) := by
  refine ini_okG PySem.W.kxs_LookupError F.excBase_LookupError (N := ["self", "point", "__class__"]) R.M ns_NoPoint R.T R.S (by exact rfl) sup_NoPoint R.sup (fun vs H Q E h => ?_) (fun L => ⟨⟨_, by exact rfl⟩, by exact rfl, by exact rfl⟩) (fun A outer s H vs Q E hr h => ?_)
  · obtain ⟨a, S, v, d, rfl, _⟩ := h
    rfl
  · obtain ⟨a, S, v, d, rfl, ha, tr, k⟩ := h
    refine ⟨⟨a, _, rfl, ha⟩, _, (pss_cons (ps_ostG (bmB := leTail) (newId := "LookupError.__new__") K F.store_LookupError (pv 0) pe_str) (pss_one (ps_ostG (bmB := leTail) (newId := "LookupError.__new__") K F.store_LookupError (pv 0) (pe_call (ok_cp W n) (hr.mono (by omega)) rfl W.D_copied.g W.D_copied.F.kp W.D_copied.b .nil pass0 (pa_cons (pv 1) pa_nil))))), ?_⟩
    rw [show startF ["self", "point", "__class__"] [V.ref a, v] [none] = [some (.ref a), some v, none] from rfl]
    simp only [tOstG, tSeq, tIfS, tNext, tRet, tRetN, tAsg, tDrop, tPar, tCons, tNil, tCB, tVar, tC, tOp, rI, rI0, rU, tTest, tB, tTup, tLst, gName, tIf, tAnd, tOr, tNot, tAndV, tOrV, tNotV, tUn, tCall, tChain, tSl, tNoPart, tPart, tBM, tBM0, tDGet, sDPut, rIxT, rIxL, rMulK, rLenK, rLstK, tTruK, gTup, gCons, gNil, rEq, rNe, scal, tNever, rMulK, rGcd, L2.start, List.map, List.length, List.replicate, List.cons_append, List.nil_append, List.append_nil, List.set, List.set_cons_zero, List.set_cons_succ, List.getElem?_cons_succ, List.getElem?_cons_zero, Option.some.injEq, List.cons.injEq, V.int.injEq, V.str.injEq, V.bl.injEq, V.ref.injEq, and_true, true_and, exists_eq_left, exists_eq_left', exists_eq_right, exists_eq_right', exists_eq, exists_and_left, exists_and_right, and_assoc, exists_false, false_and, and_false, or_false, false_or, reduceCtorEq, Nat.reduceAdd, Nat.reduceSub, List.append_assoc, eq_self, if_true, if_false, Bool.false_eq_true, decide_eq_true_eq, List.length_cons, List.length_nil]
    refine ⟨C, R.T, R.noC, Or.inl ⟨ha, fun dx hdx nda => ?_⟩⟩
    have low : ∀ b o, H b = some o → b ≠ a → upd (upd H dx (exd dx [("called", V.str "NoPoint")])) a (exo a C (some dx)) b = some o := fun b o z nb => by rw [upd_ne nb, upd_ne (ne_of_none z hdx)]; exact z
    refine ⟨hn, (fun b => S b ∧ b ≠ a), v, d, rfl, tr.keep (fun b z => z) (fun b o z y => low b o y z.2), fun v' H1 k1 t1 => ?_⟩
    have ea := k1 a _ upd_same (fun z => z)
    have ed := k1 dx (exd dx [("called", V.str "NoPoint")]) (by rw [upd_ne nda]; exact upd_same) (fun z => z)
    refine ⟨C, R.T, R.noF, Or.inr ⟨dx, ea, _, ed, by simp, ?_⟩⟩
    have fr : ∀ b, upd (upd H dx (exd dx [("called", V.str "NoPoint")])) a (exo a C (some dx)) b = none → H b = none ∧ b ≠ dx := fun b z => by
      have nba : b ≠ a := fun y => by rw [y, upd_same] at z; cases z
      rw [upd_ne nba] at z
      have nbd : b ≠ dx := fun y => by rw [y, upd_same] at z; cases z
      rw [upd_ne nbd] at z
      exact ⟨z, nbd⟩
    refine k v' dx _ hdx nda (by rw [upd_ne (Ne.symm nda)]; exact ea) upd_same (fun b o z nb => ?_) (t1.keep fr fun b o z y => ?_)
    · rw [upd_ne (ne_of_none z hdx)]
      exact k1 b o (low b o z nb) (fun z => z)
    · rw [upd_ne (fr b z).2]; exact y

theorem ns_NoMember : NScope ["self", "value", "__class__"] ["self", "value"] ["__class__"] (C8.fnScope (sIniAt 10)) := nscope_by (by decide +kernel)
theorem sup_NoMember : (C8.fnScope (sIniAt 10)).names.lookup ("super" : Str) = some .globalImplicit := by decide +kernel
theorem ok_NoMember {C f cc cda : Addr} {fd : FuncData} (n : Nat) (hn : n ≤ 100) (W : Ds K mg) (R : ErrV P K mg leTail "LookupError.__new__" "LookupError" "LookupError.__init__" "NoMember" (sIniAt 10) "NoMember.__init__" C f cc cda fd "value") : FnOk P w K mg base CX0 (n + 4) f fd ["self", "value"] (sp_iniV C "value" "NoMember" n) := by
  refine ini_okG PySem.W.kxs_LookupError F.excBase_LookupError (N := ["self", "value", "__class__"]) R.M ns_NoMember R.T R.S (by exact rfl) sup_NoMember R.sup (fun vs H Q E h => ?_) (fun L => ⟨⟨_, by exact rfl⟩, by exact rfl, by exact rfl⟩) (fun A outer s H vs Q E hr h => ?_)
  · obtain ⟨a, S, v, d, rfl, _⟩ := h
    rfl
  · obtain ⟨a, S, v, d, rfl, ha, tr, k⟩ := h
    refine ⟨⟨a, _, rfl, ha⟩, _, (pss_cons (ps_ostG (bmB := leTail) (newId := "LookupError.__new__") K F.store_LookupError (pv 0) pe_str) (pss_one (ps_ostG (bmB := leTail) (newId := "LookupError.__new__") K F.store_LookupError (pv 0) (pe_call (ok_cp W n) (hr.mono (by omega)) rfl W.D_copied.g W.D_copied.F.kp W.D_copied.b .nil pass0 (pa_cons (pv 1) pa_nil))))), ?_⟩
    rw [show startF ["self", "value", "__class__"] [V.ref a, v] [none] = [some (.ref a), some v, none] from rfl]
    simp only [tOstG, tSeq, tIfS, tNext, tRet, tRetN, tAsg, tDrop, tPar, tCons, tNil, tCB, tVar, tC, tOp, rI, rI0, rU, tTest, tB, tTup, tLst, gName, tIf, tAnd, tOr, tNot, tAndV, tOrV, tNotV, tUn, tCall, tChain, tSl, tNoPart, tPart, tBM, tBM0, tDGet, sDPut, rIxT, rIxL, rMulK, rLenK, rLstK, tTruK, gTup, gCons, gNil, rEq, rNe, scal, tNever, rMulK, rGcd, L2.start, List.map, List.length, List.replicate, List.cons_append, List.nil_append, List.append_nil, List.set, List.set_cons_zero, List.set_cons_succ, List.getElem?_cons_succ, List.getElem?_cons_zero, Option.some.injEq, List.cons.injEq, V.int.injEq, V.str.injEq, V.bl.injEq, V.ref.injEq, and_true, true_and, exists_eq_left, exists_eq_left', exists_eq_right, exists_eq_right', exists_eq, exists_and_left, exists_and_right, and_assoc, exists_false, false_and, and_false, or_false, false_or, reduceCtorEq, Nat.reduceAdd, Nat.reduceSub, List.append_assoc, eq_self, if_true, if_false, Bool.false_eq_true, decide_eq_true_eq, List.length_cons, List.length_nil]
    refine ⟨C, R.T, R.noC, Or.inl ⟨ha, fun dx hdx nda => ?_⟩⟩
    have low : ∀ b o, H b = some o → b ≠ a → upd (upd H dx (exd dx [("called", V.str "NoMember")])) a (exo a C (some dx)) b = some o := fun b o z nb => by rw [upd_ne nb, upd_ne (ne_of_none z hdx)]; exact z
    refine ⟨hn, (fun b => S b ∧ b ≠ a), v, d, rfl, tr.keep (fun b z => z) (fun b o z y => low b o y z.2), fun v' H1 k1 t1 => ?_⟩
    have ea := k1 a _ upd_same (fun z => z)
    have ed := k1 dx (exd dx [("called", V.str "NoMember")]) (by rw [upd_ne nda]; exact upd_same) (fun z => z)
    refine ⟨C, R.T, R.noF, Or.inr ⟨dx, ea, _, ed, by simp, ?_⟩⟩
    have fr : ∀ b, upd (upd H dx (exd dx [("called", V.str "NoMember")])) a (exo a C (some dx)) b = none → H b = none ∧ b ≠ dx := fun b z => by
      have nba : b ≠ a := fun y => by rw [y, upd_same] at z; cases z
      rw [upd_ne nba] at z
      have nbd : b ≠ dx := fun y => by rw [y, upd_same] at z; cases z
      rw [upd_ne nbd] at z
      exact ⟨z, nbd⟩
    refine k v' dx _ hdx nda (by rw [upd_ne (Ne.symm nda)]; exact ea) upd_same (fun b o z nb => ?_) (t1.keep fr fun b o z y => ?_)
    · rw [upd_ne (ne_of_none z hdx)]
      exact k1 b o (low b o z nb) (fun z => z)
    · rw [upd_ne (fr b z).2]; exact y

theorem ns_NoDeed : NScope ["self", "number", "__class__"] ["self", "number"] ["__class__"] (C8.fnScope (sIniAt 11)) := nscope_by (by decide +kernel)
theorem sup_NoDeed : (C8.fnScope (sIniAt 11)).names.lookup ("super" : Str) = some .globalImplicit := by decide +kernel
theorem ok_NoDeed {C f cc cda : Addr} {fd : FuncData} (n : Nat) (hn : n ≤ 100) (W : Ds K mg) (R : ErrV P K mg leTail "LookupError.__new__" "LookupError" "LookupError.__init__" "NoDeed" (sIniAt 11) "NoDeed.__init__" C f cc cda fd "number") : FnOk P w K mg base CX0 (n + 4) f fd ["self", "number"] (sp_iniV C "number" "NoDeed" n) := by
  refine ini_okG PySem.W.kxs_LookupError F.excBase_LookupError (N := ["self", "number", "__class__"]) R.M ns_NoDeed R.T R.S (by exact rfl) sup_NoDeed R.sup (fun vs H Q E h => ?_) (fun L => ⟨⟨_, by exact rfl⟩, by exact rfl, by exact rfl⟩) (fun A outer s H vs Q E hr h => ?_)
  · obtain ⟨a, S, v, d, rfl, _⟩ := h
    rfl
  · obtain ⟨a, S, v, d, rfl, ha, tr, k⟩ := h
    refine ⟨⟨a, _, rfl, ha⟩, _, (pss_cons (ps_ostG (bmB := leTail) (newId := "LookupError.__new__") K F.store_LookupError (pv 0) pe_str) (pss_one (ps_ostG (bmB := leTail) (newId := "LookupError.__new__") K F.store_LookupError (pv 0) (pe_call (ok_cp W n) (hr.mono (by omega)) rfl W.D_copied.g W.D_copied.F.kp W.D_copied.b .nil pass0 (pa_cons (pv 1) pa_nil))))), ?_⟩
    rw [show startF ["self", "number", "__class__"] [V.ref a, v] [none] = [some (.ref a), some v, none] from rfl]
    simp only [tOstG, tSeq, tIfS, tNext, tRet, tRetN, tAsg, tDrop, tPar, tCons, tNil, tCB, tVar, tC, tOp, rI, rI0, rU, tTest, tB, tTup, tLst, gName, tIf, tAnd, tOr, tNot, tAndV, tOrV, tNotV, tUn, tCall, tChain, tSl, tNoPart, tPart, tBM, tBM0, tDGet, sDPut, rIxT, rIxL, rMulK, rLenK, rLstK, tTruK, gTup, gCons, gNil, rEq, rNe, scal, tNever, rMulK, rGcd, L2.start, List.map, List.length, List.replicate, List.cons_append, List.nil_append, List.append_nil, List.set, List.set_cons_zero, List.set_cons_succ, List.getElem?_cons_succ, List.getElem?_cons_zero, Option.some.injEq, List.cons.injEq, V.int.injEq, V.str.injEq, V.bl.injEq, V.ref.injEq, and_true, true_and, exists_eq_left, exists_eq_left', exists_eq_right, exists_eq_right', exists_eq, exists_and_left, exists_and_right, and_assoc, exists_false, false_and, and_false, or_false, false_or, reduceCtorEq, Nat.reduceAdd, Nat.reduceSub, List.append_assoc, eq_self, if_true, if_false, Bool.false_eq_true, decide_eq_true_eq, List.length_cons, List.length_nil]
    refine ⟨C, R.T, R.noC, Or.inl ⟨ha, fun dx hdx nda => ?_⟩⟩
    have low : ∀ b o, H b = some o → b ≠ a → upd (upd H dx (exd dx [("called", V.str "NoDeed")])) a (exo a C (some dx)) b = some o := fun b o z nb => by rw [upd_ne nb, upd_ne (ne_of_none z hdx)]; exact z
    refine ⟨hn, (fun b => S b ∧ b ≠ a), v, d, rfl, tr.keep (fun b z => z) (fun b o z y => low b o y z.2), fun v' H1 k1 t1 => ?_⟩
    have ea := k1 a _ upd_same (fun z => z)
    have ed := k1 dx (exd dx [("called", V.str "NoDeed")]) (by rw [upd_ne nda]; exact upd_same) (fun z => z)
    refine ⟨C, R.T, R.noF, Or.inr ⟨dx, ea, _, ed, by simp, ?_⟩⟩
    have fr : ∀ b, upd (upd H dx (exd dx [("called", V.str "NoDeed")])) a (exo a C (some dx)) b = none → H b = none ∧ b ≠ dx := fun b z => by
      have nba : b ≠ a := fun y => by rw [y, upd_same] at z; cases z
      rw [upd_ne nba] at z
      have nbd : b ≠ dx := fun y => by rw [y, upd_same] at z; cases z
      rw [upd_ne nbd] at z
      exact ⟨z, nbd⟩
    refine k v' dx _ hdx nda (by rw [upd_ne (Ne.symm nda)]; exact ea) upd_same (fun b o z nb => ?_) (t1.keep fr fun b o z y => ?_)
    · rw [upd_ne (ne_of_none z hdx)]
      exact k1 b o (low b o z nb) (fun z => z)
    · rw [upd_ne (fr b z).2]; exact y

theorem ns_UnknownName : NScope ["self", "name", "__class__"] ["self", "name"] ["__class__"] (C8.fnScope (sIniAt 12)) := nscope_by (by decide +kernel)
theorem sup_UnknownName : (C8.fnScope (sIniAt 12)).names.lookup ("super" : Str) = some .globalImplicit := by decide +kernel
theorem ok_UnknownName {C f cc cda : Addr} {fd : FuncData} (n : Nat) (hn : n ≤ 100) (W : Ds K mg) (R : ErrV P K mg leTail "LookupError.__new__" "LookupError" "LookupError.__init__" "UnknownName" (sIniAt 12) "UnknownName.__init__" C f cc cda fd "name") : FnOk P w K mg base CX0 (n + 4) f fd ["self", "name"] (sp_iniV C "name" "UnknownName" n) := by
  refine ini_okG PySem.W.kxs_LookupError F.excBase_LookupError (N := ["self", "name", "__class__"]) R.M ns_UnknownName R.T R.S (by exact rfl) sup_UnknownName R.sup (fun vs H Q E h => ?_) (fun L => ⟨⟨_, by exact rfl⟩, by exact rfl, by exact rfl⟩) (fun A outer s H vs Q E hr h => ?_)
  · obtain ⟨a, S, v, d, rfl, _⟩ := h
    rfl
  · obtain ⟨a, S, v, d, rfl, ha, tr, k⟩ := h
    refine ⟨⟨a, _, rfl, ha⟩, _, (pss_cons (ps_ostG (bmB := leTail) (newId := "LookupError.__new__") K F.store_LookupError (pv 0) pe_str) (pss_one (ps_ostG (bmB := leTail) (newId := "LookupError.__new__") K F.store_LookupError (pv 0) (pe_call (ok_cp W n) (hr.mono (by omega)) rfl W.D_copied.g W.D_copied.F.kp W.D_copied.b .nil pass0 (pa_cons (pv 1) pa_nil))))), ?_⟩
    rw [show startF ["self", "name", "__class__"] [V.ref a, v] [none] = [some (.ref a), some v, none] from rfl]
    simp only [tOstG, tSeq, tIfS, tNext, tRet, tRetN, tAsg, tDrop, tPar, tCons, tNil, tCB, tVar, tC, tOp, rI, rI0, rU, tTest, tB, tTup, tLst, gName, tIf, tAnd, tOr, tNot, tAndV, tOrV, tNotV, tUn, tCall, tChain, tSl, tNoPart, tPart, tBM, tBM0, tDGet, sDPut, rIxT, rIxL, rMulK, rLenK, rLstK, tTruK, gTup, gCons, gNil, rEq, rNe, scal, tNever, rMulK, rGcd, L2.start, List.map, List.length, List.replicate, List.cons_append, List.nil_append, List.append_nil, List.set, List.set_cons_zero, List.set_cons_succ, List.getElem?_cons_succ, List.getElem?_cons_zero, Option.some.injEq, List.cons.injEq, V.int.injEq, V.str.injEq, V.bl.injEq, V.ref.injEq, and_true, true_and, exists_eq_left, exists_eq_left', exists_eq_right, exists_eq_right', exists_eq, exists_and_left, exists_and_right, and_assoc, exists_false, false_and, and_false, or_false, false_or, reduceCtorEq, Nat.reduceAdd, Nat.reduceSub, List.append_assoc, eq_self, if_true, if_false, Bool.false_eq_true, decide_eq_true_eq, List.length_cons, List.length_nil]
    refine ⟨C, R.T, R.noC, Or.inl ⟨ha, fun dx hdx nda => ?_⟩⟩
    have low : ∀ b o, H b = some o → b ≠ a → upd (upd H dx (exd dx [("called", V.str "UnknownName")])) a (exo a C (some dx)) b = some o := fun b o z nb => by rw [upd_ne nb, upd_ne (ne_of_none z hdx)]; exact z
    refine ⟨hn, (fun b => S b ∧ b ≠ a), v, d, rfl, tr.keep (fun b z => z) (fun b o z y => low b o y z.2), fun v' H1 k1 t1 => ?_⟩
    have ea := k1 a _ upd_same (fun z => z)
    have ed := k1 dx (exd dx [("called", V.str "UnknownName")]) (by rw [upd_ne nda]; exact upd_same) (fun z => z)
    refine ⟨C, R.T, R.noF, Or.inr ⟨dx, ea, _, ed, by simp, ?_⟩⟩
    have fr : ∀ b, upd (upd H dx (exd dx [("called", V.str "UnknownName")])) a (exo a C (some dx)) b = none → H b = none ∧ b ≠ dx := fun b z => by
      have nba : b ≠ a := fun y => by rw [y, upd_same] at z; cases z
      rw [upd_ne nba] at z
      have nbd : b ≠ dx := fun y => by rw [y, upd_same] at z; cases z
      rw [upd_ne nbd] at z
      exact ⟨z, nbd⟩
    refine k v' dx _ hdx nda (by rw [upd_ne (Ne.symm nda)]; exact ea) upd_same (fun b o z nb => ?_) (t1.keep fr fun b o z y => ?_)
    · rw [upd_ne (ne_of_none z hdx)]
      exact k1 b o (low b o z nb) (fun z => z)
    · rw [upd_ne (fr b z).2]; exact y

end
end G
set_option Elab.async false
set_option linter.all false
set_option maxRecDepth 100000
set_option maxHeartbeats 2000000
namespace G
open PySem L2 NdefX
mutual
/-- how such a tree is read and shown; that no dict of it is the dict of modules is known to the dicts themselves -/
theorem TrI.rk {P : Program} {w : World} {H : Hp} {h : Heap} (hok : HOk P w H h) : ∀ {S : Addr → Prop} {n : Nat} {v : V} {d : PyData} {u : Value}, TrI H S n v d → RelV v u → d.showable = true → d.shown.length ≤ sizeLine →
    (∃ as, Reads h u d as) ∧ ∃ bs, ReadAtMost h d.depth bs ∧ ReprK P w bs h d.depth u d.shown
  | _, _, _, _, u, .int i, r, hs, hz => by
    obtain ⟨t, rfl⟩ := (show ∃ t, u = Value.int i t from r)
    refine ⟨⟨[], .int i t⟩, [], (fun _ z => nomatch z), ?_⟩
    simp only [PyData.shown]
    exact .of_is (ReprIs.int t (by simpa [PyData.showable] using hs)) [] h _
  | _, _, _, _, u, .str x, r, hs, hz => by
    obtain ⟨t, rfl⟩ := (show ∃ t, u = Value.str x t from r)
    refine ⟨⟨[], .str x t⟩, [], (fun _ z => nomatch z), ?_⟩
    simp only [PyData.shown]
    exact .of_is (ReprIs.str x t (by simpa only [PyData.shown] using hz)) [] h _
  | _, _, _, _, u, .lst (a := a) (vs := vs) (ds := ds) s e z h', r, hs, hz => by
    obtain rfl : u = Value.ref a := r
    obtain ⟨_, its, n, rel, e'⟩ := (show ObjOk P w H h a (.lst _) from hok a _ e)
    simp only [PyData.shown] at hz
    obtain ⟨⟨as, ra⟩, bs, hb, hk⟩ := TrL.rk hok h' rel (by simpa [PyData.showable] using hs) (fun t m => Nat.le_trans (listText_mem_le m) hz)
    have rd : Reads h (.ref a) (.list ds) (a :: as) := .list e' rfl rfl (by simpa using ra)
    have na : a ∉ bs := not_mem_of_deeper rd (by simp only [PyData.depth]; omega) hb
    refine ⟨⟨_, rd⟩, a :: bs, ReadAtMost.cons rd (by simp only [PyData.depth]; omega) hb, ?_⟩
    simp only [PyData.depth, PyData.shown]
    cases its with
    | nil =>
      cases ra
      simp only [PyData.shownAll, listText_nil]
      exact ReprK.listEmpty e' rfl rfl
    | cons x l => exact ReprK.list e' rfl rfl na (by simpa using hk.length_eq) fun i y q => hk.item i y (by simpa using q)
  | _, _, _, _, u, .tup (a := a) (vs := vs) (ds := ds) s e z h', r, hs, hz => by
    obtain rfl : u = Value.ref a := r
    obtain ⟨_, its, rel, o, e1, e2, n, e3⟩ := (show ObjOk P w H h a (.tup _) from hok a _ e)
    simp only [PyData.shown] at hz
    obtain ⟨⟨as, ra⟩, bs, hb, hk⟩ := TrL.rk hok h' rel (by simpa [PyData.showable] using hs) (fun t m => Nat.le_trans (tupleText_mem_le m) hz)
    have rd : Reads h (.ref a) (.tuple ds) as := .tuple e1 e2 e3 (by simpa using ra)
    have na : a ∉ bs := not_mem_of_deeper rd (by simp only [PyData.depth]; omega) hb
    refine ⟨⟨_, rd⟩, a :: bs, ReadAtMost.cons rd (by simp only [PyData.depth]; omega) hb, ?_⟩
    simp only [PyData.depth, PyData.shown]
    exact ReprK.tuple e1 e2 e3 na (by simpa using hk)
  | _, _, _, _, u, .dct (a := a) (k := k) (v := v) (d := d) s e h', r, hs, hz => by
    obtain rfl : u = Value.ref a := r
    obtain ⟨_, nb, vs, kv, o, es, ep, e1, ex, e3, ks, ps, nd⟩ := (show ObjOk P w H h a (.dK _) from hok a _ e)
    cases kv with
    | @cons _ q _ _ r0 tt =>
      cases tt
      obtain ⟨q1, q2⟩ := q
      obtain ⟨rk, rv⟩ := r0
      have rk' : Sum.inr k = q1 := rk
      subst rk'
      generalize he : es.toList = el at ps
      cases ps with
      | @cons en _ _ _ hk hv rest =>
        cases rest
        obtain ⟨t, ek⟩ := Value.isStrOf_shape (x := k) (v := en.key) hk
        have hv' : en.val = q2 := hv
        simp only [PyData.shown, PyData.shownKv] at hz
        have one : ((reprText k ++ ": ") ++ d.shown).length ≤ sizeLine := Nat.le_trans (dictText_mem_le (List.mem_cons_self ..)) hz
        rw [strLen_append, strLen_append] at one
        obtain ⟨⟨as, ra⟩, bs, hb, hkv⟩ := TrI.rk hok h' (show RelV v q2 from rv) (by simpa [PyData.showable, PyData.showableKv] using hs) (by omega)
        have keys : ReadsAll h (es.toList.map (·.key)) [PyData.str k] ([] ++ []) := by
          rw [he]
          show ReadsAll h [en.key] [PyData.str k] _
          rw [ek]; exact .cons (.str k t) .nil
        have vals : ReadsAll h (es.toList.map (·.val)) [d] (as ++ []) := by
          rw [he]
          show ReadsAll h [en.val] [d] _
          rw [hv']; exact .cons ra .nil
        have rd : Reads h (.ref a) (.dict [(.str k, d)]) _ := Reads.dict e1 ex.1 e3 keys vals
        have dd : (PyData.dict [(.str k, d)]).depth = d.depth + 1 := by simp [PyData.depth, PyData.depthKv]
        have na : a ∉ bs := not_mem_of_deeper rd (by omega) hb
        have rdm := ReadAtMost.cons rd (show d.depth ≤ _ by omega) hb
        refine ⟨⟨_, rd⟩, a :: bs, rdm, ?_⟩
        rw [dd]
        simp only [PyData.shown, PyData.shownKv]
        refine ReprK.dict e1 ex.1 e3 nb na ?_
        rw [he]
        exact .cons (by rw [ek]; exact .of_is (ReprIs.str k t (by omega)) bs h _) (by rw [hv']; exact hkv) .nil
theorem TrL.rk {P : Program} {w : World} {H : Hp} {h : Heap} (hok : HOk P w H h) : ∀ {S : Addr → Prop} {n : Nat} {vs : List V} {ds : List PyData} {us : List Value}, TrL H S n vs ds → Vals vs us → PyData.showableAll ds = true → (∀ t ∈ PyData.shownAll ds, t.length ≤ sizeLine) →
    (∃ as, ReadsAll h us ds as) ∧ ∃ bs, ReadAtMost h (PyData.depthAll ds) bs ∧ ReprAllK P w bs h (PyData.depthAll ds) us (PyData.shownAll ds)
  | _, _, _, _, _, .nil, r, _, _ => by
    cases r
    refine ⟨⟨[], .nil⟩, [], (fun _ z => nomatch z), ?_⟩
    simp only [PyData.shownAll]
    exact .nil
  | _, _, _, _, _, .cons (d := d) (ds := ds) h1 t, r, hs, hz => by
    cases r with
    | cons r1 r2 =>
      have sp : d.showable = true ∧ PyData.showableAll ds = true := by simpa [PyData.showableAll] using hs
      obtain ⟨⟨as, ra⟩, b1, hb1, k1⟩ := TrI.rk hok h1 r1 sp.1 (hz _ (by simp [PyData.shownAll]))
      obtain ⟨⟨bs, rb⟩, b2, hb2, k2⟩ := TrL.rk hok t r2 sp.2 (fun t m => hz t (by simp [PyData.shownAll, m]))
      refine ⟨⟨as ++ bs, .cons ra rb⟩, b1 ++ b2, ?_, ?_⟩
      · simp only [PyData.depthAll]
        exact (hb1.mono (Nat.le_max_left _ _)).append (hb2.mono (Nat.le_max_right _ _))
      · simp only [PyData.depthAll, PyData.shownAll]
        refine .cons ((k1.more fun b z => ?_).level_le (Nat.le_max_left _ _)) (k2.more_le (fun b z => ?_) (Nat.le_max_right _ _))
        · exact List.mem_append.mpr (.inl z)
        · exact List.mem_append.mpr (.inr z)
end
/-- repr of such a list -/
def rReprT : List V → Hp → VK → Prop := fun xs H Q => ∃ (S : Addr → Prop) (n : Nat) (a : Addr) (D : PyData), (∃ d ds, D = .list (d :: ds)) ∧ xs = [.ref a] ∧ TrI H S n (.ref a) D ∧ D.showable = true ∧ D.depth ≤ 60 ∧ D.shown.length ≤ sizeLine ∧ Q (.str D.shown) H
theorem cr_reprT {X : Cx} (hu : X.A.units + 65 < cLine) (nr : NoRepr X.A) : CallR X (.builtin "repr") rReprT := by
  intro pins s σ H xs us Q I r h
  obtain ⟨S, n, a, _, ⟨d, ds, rfl⟩, rfl, tr, hs, hz, hl, q⟩ := h
  obtain ⟨u, rfl, ru⟩ : ∃ u, us = [u] ∧ RelV (.ref a) u := by
    cases r with
    | cons r1 r2 => cases r2; exact ⟨_, rfl, r1⟩
  obtain rfl : u = Value.ref a := ru
  cases tr with
  | @lst _ _ _ vs _ sa e z h' =>
    obtain ⟨_, its, m, rel, e'⟩ := (show ObjOk X.prog X.w H s.heap a (.lst _) from I.hok a _ e)
    have hl' := hl
    simp only [PyData.shown] at hl'
    obtain ⟨⟨as, ra⟩, bs, hb, hk⟩ := TrL.rk I.hok h' rel (by simpa [PyData.showable] using hs) (fun t m => Nat.le_trans (listText_mem_le m) hl')
    have rd : Reads s.heap (.ref a) (.list (d :: ds)) (a :: as) := .list e' rfl rfl (by simpa using ra)
    have na : a ∉ bs := not_mem_of_deeper rd (by simp only [PyData.depth]; omega) hb
    have dz : PyData.depthAll (d :: ds) + 1 ≤ 60 := by simpa only [PyData.depth] using hz
    cases its with
    | nil => cases ra
    | cons x l =>
      refine call_repr_slot (by omega) ⟨_, e', rfl⟩ F.slot_list_repr.toG ?_
      refine call_list_reprK e' rfl rfl na (by simpa using hk.length_eq) (fun i y q => hk.item i y (by simpa using q)) nr (fun b _ => Clear.nil b) (by show X.A.units + 1 + _ < cLine; omega) (fun _ _ e => e) (fun h' u tk kk => ?_) hl'
      exact ⟨_, _, rfl, V.str (PyData.list (d :: ds)).shown, H, I.kept kk, ⟨u, by simp only [PyData.shown]⟩, q⟩
end G
set_option Elab.async false
set_option linter.all false
set_option maxRecDepth 100000
set_option maxHeartbeats 4000000
set_option exponentiation.threshold 10000
namespace G
open PySem L2 NdefX
/-- the five classes -/
structure Five (P : Program) (K : PySem.W.Frag) (mg : Str → Option Value) (C : Nat → Addr) (f cc cda : Nat → Addr) (fd : Nat → FuncData) : Prop where
  r0 : ErrV P K mg vaTail "ValueError.__new__" "ValueError" "ValueError.__init__" "BadName" (sIniAt 8) "BadName.__init__" (C 0) (f 0) (cc 0) (cda 0) (fd 0) "name"
  r1 : ErrV P K mg leTail "LookupError.__new__" "LookupError" "LookupError.__init__" "UnknownName" (sIniAt 12) "UnknownName.__init__" (C 1) (f 1) (cc 1) (cda 1) (fd 1) "name"
  r2 : ErrV P K mg leTail "LookupError.__new__" "LookupError" "LookupError.__init__" "NoMember" (sIniAt 10) "NoMember.__init__" (C 2) (f 2) (cc 2) (cda 2) (fd 2) "value"
  r3 : ErrV P K mg leTail "LookupError.__new__" "LookupError" "LookupError.__init__" "NoPoint" (sIniAt 9) "NoPoint.__init__" (C 3) (f 3) (cc 3) (cda 3) (fd 3) "point"
  r4 : ErrV P K mg leTail "LookupError.__new__" "LookupError" "LookupError.__init__" "NoDeed" (sIniAt 11) "NoDeed.__init__" (C 4) (f 4) (cc 4) (cda 4) (fd 4) "number"
  b0 : Binds K (fd 0) ["self", "name"] []
  b1 : Binds K (fd 1) ["self", "name"] []
  b2 : Binds K (fd 2) ["self", "value"] []
  b3 : Binds K (fd 3) ["self", "point"] []
  b4 : Binds K (fd 4) ["self", "number"] []
def oddD : PyData := .list [.int 1, .list [.int 2], .dict [(.str "a", .list [.int 3])], .tuple [.str "b", .list [.int 4]]]
section
variable {P : Program} {w : World} {K : PySem.W.Frag} {mg : Str → Option Value} {base : Heap}
/-- odd, as it may have grown -/
structure OddW (nx : Nat) (H : Hp) (o o1 o2 o3 t o4 : Addr) : Prop where
  eo : ∃ x, H o = some (.lst ([.int 1, .ref o1, .ref o2, .ref t] ++ x)) ∧ x.length ≤ nx
  e1 : ∃ x, H o1 = some (.lst x) ∧ x.length ≤ nx
  e2 : H o2 = some (.dK [(.inr "a", .ref o3)])
  e3 : ∃ x, H o3 = some (.lst x) ∧ x.length ≤ nx
  et : H t = some (.tup [.str "b", .ref o4])
  e4 : ∃ x, H o4 = some (.lst x) ∧ x.length ≤ nx
structure OddN (o o1 o2 o3 t o4 : Addr) : Prop where
  n01 : o ≠ o1
  n02 : o ≠ o2
  n03 : o ≠ o3
  n0t : o ≠ t
  n04 : o ≠ o4
  n12 : o1 ≠ o2
  n13 : o1 ≠ o3
  n1t : o1 ≠ t
  n14 : o1 ≠ o4
  n23 : o2 ≠ o3
  n2t : o2 ≠ t
  n24 : o2 ≠ o4
  n3t : o3 ≠ t
  n34 : o3 ≠ o4
  nt4 : t ≠ o4
def ErrAt (H0 H : Hp) (a C : Addr) (fld x : Str) : Prop := ∃ d v, H0 a = none ∧ H0 d = none ∧ H a = some (exo a C (some d)) ∧ H d = some (exd d [(fld, v), ("called", .str x)]) ∧ TrI H (fun b => H0 b = none) 3 v oddD
theorem ErrAt.keep {H0 H H' : Hp} {a C : Addr} {fld x : Str} (h : ErrAt H0 H a C fld x) (k : ∀ b o, H0 b = none → H b = some o → H' b = some o) : ErrAt H0 H' a C fld x := by
  obtain ⟨d, v, h1, h2, h3, h4, h5⟩ := h
  exact ⟨d, v, h1, h2, k a _ h1 h3, k d _ h2 h4, h5.keep (fun b z => z) fun b o z y => k b o z y⟩
theorem mk_step {H0 H1 : Hp} {a C dx : Addr} {fld x : Str} {v' : V} {H' : Hp} (k01 : Kp M0 H0 H1) (ha : H1 a = none) (hdx : upd H1 a (exo a C none) dx = none) (nda : dx ≠ a) (ea : H' a = some (exo a C (some dx)))
    (ed : H' dx = some (exd dx [(fld, v'), ("called", .str x)])) (kp : ∀ b o, upd H1 a (exo a C none) b = some o → b ≠ a → H' b = some o) (tc : TrI H' (fun b => upd H1 a (exo a C none) b = none ∧ b ≠ dx) 3 v' oddD) : Kp M0 H1 H' ∧ ErrAt H0 H' a C fld x := by
  have hdx1 : H1 dx = none := by rw [upd_ne nda] at hdx; exact hdx
  refine ⟨fun b o z _ => kp b o (by rw [upd_ne (ne_of_none z ha)]; exact z) (ne_of_none z ha), dx, v', none0 k01 ha, none0 k01 hdx1, ea, ed, tc.keep (fun b z => ?_) fun b o _ z => z⟩
  have nba : b ≠ a := fun y => by have := z.1; rw [y, upd_same] at this; cases this
  have := z.1
  rw [upd_ne nba] at this
  exact none0 k01 this
theorem arg_step {H0 H1 : Hp} {a C o : Addr} (k01 : Kp M0 H0 H1) (ha : H1 a = none) (tr : TrI H0 (fun b => H0 b ≠ none) 3 (.ref o) oddD) : TrI (upd H1 a (exo a C none)) (fun b => H0 b ≠ none ∧ b ≠ a) 3 (.ref o) oddD :=
  tr.keep (fun b z => ⟨z, fun y => z (by rw [y]; exact none0 k01 ha)⟩) fun b u z y => by
    rw [upd_ne (fun q => z (by rw [q]; exact none0 k01 ha))]
    exact k01 b u y (fun z => z)
theorem upn {H : Hp} {p b : Addr} {o : HO} (h : upd H p o b = none) : b ≠ p ∧ H b = none := by
  have n : b ≠ p := fun z => by rw [z, upd_same] at h; cases h
  rw [upd_ne n] at h
  exact ⟨n, h⟩
def CI1 (H0 : Hp) (o o1 o2 o3 t o4 : Addr) : Prop := H0 o = some (.lst [.int 1, .ref o1, .ref o2, .ref t]) ∧ H0 o1 = some (.lst [.int 2]) ∧ H0 o2 = some (.dK [(.inr "a", .ref o3)]) ∧ H0 o3 = some (.lst [.int 3]) ∧ H0 t = some (.tup [.str "b", .ref o4]) ∧ H0 o4 = some (.lst [.int 4])
theorem CI1.tr {H0 : Hp} {o o1 o2 o3 t o4 : Addr} (h : CI1 H0 o o1 o2 o3 t o4) : TrI H0 (fun b => H0 b ≠ none) 3 (.ref o) oddD := by
  obtain ⟨h0, h1, h2, h3, ht, h4⟩ := h
  have nn : ∀ {b u}, H0 b = some u → H0 b ≠ none := fun e z => by rw [e] at z; cases z
  have n32 : o3 ≠ o2 := fun z => by rw [z, h2] at h3; cases h3
  exact .lst (nn h0) h0 (by simp) (.cons (.int 1) (.cons (.lst (nn h1) h1 (by simp) (.cons (.int 2) .nil)) (.cons (.dct (nn h2) h2 (.lst ⟨nn h3, n32⟩ h3 (by simp) (.cons (.int 3) .nil))) (.cons (.tup (nn ht) ht (by simp) (.cons (.str "b") (.cons (.lst (nn h4) h4 (by simp) (.cons (.int 4) .nil)) .nil))) .nil))))
theorem offs {H0 H : Hp} {p : Addr} {o u : HO} (h : H0 p = some u) : ∀ b w, H0 b = none → H b = some w → upd H p o b = some w := fun b w z y => by
  rw [upd_ne (fun q => by rw [q, h] at z; cases z)]; exact y
def CM1 (H : Hp) (σ : L2.St) (H0 : Hp) : Prop := Kp M0 H H0 ∧ ∃ o o1 o2 o3 t o4, σ = [some (.ref o), none, none, none, none, none, none, none, none] ∧ CI1 H0 o o1 o2 o3 t o4 ∧ OddN o o1 o2 o3 t o4 ∧ H o = none ∧ H o1 = none ∧ H o3 = none ∧ H o4 = none
def CM2 (H0 : Hp) (o : Addr) (σ : L2.St) (H' : Hp) : Prop := H' = H0 ∧ σ = [some (.ref o), some (.str oddD.shown), none, none, none, none, none, none, none]
def CM3 (nx : Nat) (H0 : Hp) (C : Nat → Addr) (o o1 o2 o3 t o4 : Addr) (a0 a1 a2 a3 a4 : Addr) (σ : L2.St) (H' : Hp) : Prop :=
  σ = [some (.ref o), some (.str oddD.shown), some (.ref a0), some (.ref a1), some (.ref a2), some (.ref a3), some (.ref a4), none, none] ∧ OddW nx H' o o1 o2 o3 t o4 ∧
  (∀ b u, H0 b = some u → b ≠ o → b ≠ o1 → b ≠ o3 → b ≠ o4 → H' b = some u) ∧
  ErrAt H0 H' a0 (C 0) "name" "BadName" ∧ ErrAt H0 H' a1 (C 1) "name" "UnknownName" ∧ ErrAt H0 H' a2 (C 2) "value" "NoMember" ∧ ErrAt H0 H' a3 (C 3) "point" "NoPoint" ∧ ErrAt H0 H' a4 (C 4) "number" "NoDeed"
def CM3e (H0 : Hp) (C : Nat → Addr) (o o1 o2 o3 t o4 : Addr) (σ : L2.St) (H' : Hp) : Prop := ∃ a0 a1 a2 a3 a4, CM3 1 H0 C o o1 o2 o3 t o4 a0 a1 a2 a3 a4 σ H'
def CM8 (H : Hp) (S : Addr → Prop) (pre : List (Option V)) (σ : L2.St) (H' : Hp) : Prop := ∃ p ws, σ = pre ++ [some (.ref p), none] ∧ Kp M0 H H' ∧ H' p = some (.lst ws) ∧ ws.length = 5 ∧ ∀ x ∈ ws, TrI H' S 3 x oddD
def CpS (H7 : Hp) (D : Addr) (i : Nat) (H' : Hp) : Prop := Kp M0 H7 H' ∧ H' D = some (.lst (List.replicate i (V.str oddD.shown)))
theorem ok_copies {C f cc cda : Nat → Addr} {fd : Nat → FuncData} (W : Ds K mg) (V5 : Five P K mg C f cc cda fd) : FnG P w K mg base 9 W.f__law_copies_right W.fd__law_copies_right [] sp__law_copies_right := by
  refine fnG_ok W.D__law_copies_right.F sc__law_copies_right (fun vs H Q E h => ?len) (fun cdv A outer s H vs Q E nr hr h => ?body)
  case len =>
    obtain ⟨rfl, _⟩ := h
    rfl
  case body =>
    obtain ⟨rfl, k⟩ := h
    have nd := sc__law_copies_right.nd
    have hu := hu_of hr
    have hu64 := hr.units
    have hu65 := hu65_of hr
    refine ⟨_, (Evl.pss_cut (ps_set (i := 0) nd rfl (by first | exact Or.inl rfl | exact Or.inr rfl) (pe_lst (pa_cons pe_int (pa_cons (pe_lst (pa_cons pe_int pa_nil)) (pa_cons (pe_disp (pps_cons pe_str (pe_lst (pa_cons pe_int pa_nil)) pps_nil) (by rfl) (by rfl) (by decide) (by decide)) (pa_cons (pe_tup (pa_cons pe_str (pa_cons (pe_lst (pa_cons pe_int pa_nil)) pa_nil))) pa_nil))))))
      (Evl.pss_cut (ps_set (i := 1) nd rfl (by first | exact Or.inl rfl | exact Or.inr rfl) (pe_callB (cr_reprT hu65 nr) (by rfl) W.T.b_repr (by decide +kernel) (pa_cons (pv 0) pa_nil)))
      (Evl.pss_cut (ps_asg (pe_tup
          (pa_cons (pe_mkV F.excBase_ValueError V5.r0.T V5.r0.iC V5.r0.tI (ok_BadName 3 (by decide) W V5.r0) (hr.mono (by decide)) V5.b0 rfl V5.r0.g (pa_cons (pv 0) pa_nil))
          (pa_cons (pe_mkV F.excBase_LookupError V5.r1.T V5.r1.iC V5.r1.tI (ok_UnknownName 3 (by decide) W V5.r1) (hr.mono (by decide)) V5.b1 rfl V5.r1.g (pa_cons (pv 0) pa_nil))
          (pa_cons (pe_mkV F.excBase_LookupError V5.r2.T V5.r2.iC V5.r2.tI (ok_NoMember 3 (by decide) W V5.r2) (hr.mono (by decide)) V5.b2 rfl V5.r2.g (pa_cons (pv 0) pa_nil))
          (pa_cons (pe_mkV F.excBase_LookupError V5.r3.T V5.r3.iC V5.r3.tI (ok_NoPoint 3 (by decide) W V5.r3) (hr.mono (by decide)) V5.b3 rfl V5.r3.g (pa_cons (pv 0) pa_nil))
          (pa_cons (pe_mkV F.excBase_LookupError V5.r4.T V5.r4.iC V5.r4.tI (ok_NoDeed 3 (by decide) W V5.r4) (hr.mono (by decide)) V5.b4 rfl V5.r4.g (pa_cons (pv 0) pa_nil)) pa_nil))))))
        (g_tup K (pg_tup (n := 5) rfl (pgs_cons (pg_name (i := 2) nd rfl (by first | exact Or.inl rfl | exact Or.inr rfl)) (pgs_cons (pg_name (i := 3) nd rfl (by first | exact Or.inl rfl | exact Or.inr rfl)) (pgs_cons (pg_name (i := 4) nd rfl (by first | exact Or.inl rfl | exact Or.inr rfl)) (pgs_cons (pg_name (i := 5) nd rfl (by first | exact Or.inl rfl | exact Or.inr rfl)) (pgs_cons (pg_name (i := 6) nd rfl (by first | exact Or.inl rfl | exact Or.inr rfl)) pgs_nil))))))))
      (Evl.pss_cut (ps_expr (e_bm K (pe_bm PySem.F.plainAttrs_list PySem.F.slot_list_append PySem.F.type_list_append mt_append (pv 0) (pa_cons pe_int pa_nil))))
      (Evl.pss_cut (ps_expr (e_bm K (pe_bm PySem.F.plainAttrs_list PySem.F.slot_list_append PySem.F.type_list_append mt_append (pe_ix (k_ixL K) (pv 0) pe_int (fun _ _ => rfl)) (pa_cons pe_int pa_nil))))
      (Evl.pss_cut (ps_expr (e_bm K (pe_bm PySem.F.plainAttrs_list PySem.F.slot_list_append PySem.F.type_list_append mt_append (pe_dget hu (pe_ix (k_ixL K) (pv 0) pe_int (fun _ _ => rfl)) pe_str (fun _ _ => rfl)) (pa_cons pe_int pa_nil))))
      (Evl.pss_cut (ps_expr (e_bm K (pe_bm PySem.F.plainAttrs_list PySem.F.slot_list_append PySem.F.type_list_append mt_append (pe_ix (k_ixT K) (pe_ix (k_ixL K) (pv 0) pe_int (fun _ _ => rfl)) pe_int (fun _ _ => rfl)) (pa_cons pe_int pa_nil))))
      (Evl.pss_cut (ps_set (i := 7) nd rfl (by first | exact Or.inl rfl | exact Or.inr rfl) (pe_lst (pa_cons (pe_fldO V5.r0.X V5.r0.noF (pv 2)) (pa_cons (pe_fldO V5.r1.X V5.r1.noF (pv 3)) (pa_cons (pe_fldO V5.r2.X V5.r2.noF (pv 4)) (pa_cons (pe_fldO V5.r3.X V5.r3.noF (pv 5)) (pa_cons (pe_fldO V5.r4.X V5.r4.noF (pv 6)) pa_nil)))))))
      (pss_one (ps_ret (pe_cmpR (k_eqD K hu64) (pe_lc (own := [("one", 8)]) rfl nd (i_list K (pv 7)) (blkOk_by (N := N__law_copies_right) (sc := defScope s__law_copies_right) (by decide +kernel)) (fun _ _ _ _ _ => (pg_name (i := 8) nd rfl (by first | exact Or.inl rfl | exact Or.inr rfl))) (fun _ _ _ _ _ => pts_nil) (fun _ _ _ _ _ => (pe_callB (cr_reprT hu65 nr) (by rfl) W.T.b_repr (by decide +kernel) (pa_cons (pv 8) pa_nil))))
        (pe_op op_rep (pe_lst (pa_cons (pv 1) pa_nil)) pe_int) (nomark _)))))))))))), ?_⟩
    refine ⟨CM1 H, ?_, ?_⟩
    · simp only [tDisp, tPairs, tSeq, tIfS, tNext, tRet, tRetN, tAsg, tDrop, tPar, tCons, tNil, tCB, tVar, tC, tOp, rI, rI0, rU, tTest, tB, tTup, tLst, gName, tIf, tAnd, tOr, tNot, tAndV, tOrV, tNotV, tUn, tCall, tChain, tSl, tNoPart, tPart, tBM, tBM0, tDGet, sDPut, rIxT, rIxL, rMulK, rLenK, rLstK, tTruK, gTup, gCons, gNil, rEq, rNe, scal, tNever, rMulK, rGcd, L2.start, List.map, List.length, List.replicate, List.cons_append, List.nil_append, List.append_nil, List.set, List.set_cons_zero, List.set_cons_succ, List.getElem?_cons_succ, List.getElem?_cons_zero, Option.some.injEq, List.cons.injEq, V.int.injEq, V.str.injEq, V.bl.injEq, V.ref.injEq, and_true, true_and, exists_eq_left, exists_eq_left', exists_eq_right, exists_eq_right', exists_eq, exists_and_left, exists_and_right, and_assoc, exists_false, false_and, and_false, or_false, false_or, reduceCtorEq, Nat.reduceAdd, Nat.reduceSub, List.append_assoc, eq_self, if_true, if_false, Bool.false_eq_true, decide_eq_true_eq, List.length_cons, List.length_nil]
      refine ⟨by decide, fun o1 h1 o2 h2 => ⟨by decide, fun o3 h3 => ?_⟩⟩
      obtain ⟨n21, z2⟩ := upn h2
      obtain ⟨n32, z3⟩ := upn h3
      obtain ⟨n31, z3⟩ := upn z3
      refine ⟨by rw [upd_ne (Ne.symm n32)]; exact upd_same, [(.inr "a", .ref o3)], rfl, by simp, by decide, fun o4 h4 => ⟨by decide, fun t ht => ⟨by decide, fun o ho => ?_⟩⟩⟩
      obtain ⟨n42, z4⟩ := upn h4
      obtain ⟨n43, z4⟩ := upn z4
      obtain ⟨_, z4⟩ := upn z4
      obtain ⟨n41, z4⟩ := upn z4
      obtain ⟨nt4, zt⟩ := upn ht
      obtain ⟨nt2, zt⟩ := upn zt
      obtain ⟨nt3, zt⟩ := upn zt
      obtain ⟨_, zt⟩ := upn zt
      obtain ⟨nt1, zt⟩ := upn zt
      obtain ⟨n0t, zo⟩ := upn ho
      obtain ⟨n04, zo⟩ := upn zo
      obtain ⟨n02, zo⟩ := upn zo
      obtain ⟨n03, zo⟩ := upn zo
      obtain ⟨_, zo⟩ := upn zo
      obtain ⟨n01, zo⟩ := upn zo
      have mk : mergeK [] [((Sum.inr ("a" : Str) : Key), V.ref o3)] = [(.inr "a", .ref o3)] := rfl
      refine ⟨fun b u z _ => ?_, o, o1, o2, o3, t, o4, rfl, ⟨?_, ?_, ?_, ?_, ?_, ?_⟩, ⟨n01, n02, n03, n0t, n04, Ne.symm n21, Ne.symm n31, Ne.symm nt1, Ne.symm n41, Ne.symm n32, Ne.symm nt2, Ne.symm n42, Ne.symm nt3, Ne.symm n43, nt4⟩, zo, h1, z3, z4⟩
      · have m : ∀ {p : Addr}, H p = none → b ≠ p := fun q => ne_of_none z q
        rw [upd_ne (m zo), upd_ne (m zt), upd_ne (m z4), upd_ne (m z2), upd_ne (m z3), upd_ne (m z2), upd_ne (m h1)]
        exact z
      · exact upd_same
      · rw [upd_ne (Ne.symm n01), upd_ne (Ne.symm nt1), upd_ne (Ne.symm n41), upd_ne (Ne.symm n21), upd_ne (Ne.symm n31), upd_ne (Ne.symm n21)]; exact upd_same
      · rw [upd_ne (Ne.symm n02), upd_ne (Ne.symm nt2), upd_ne (Ne.symm n42), mk]; exact upd_same
      · rw [upd_ne (Ne.symm n03), upd_ne (Ne.symm nt3), upd_ne (Ne.symm n43), upd_ne n32]; exact upd_same
      · rw [upd_ne (Ne.symm n0t)]; exact upd_same
      · rw [upd_ne (Ne.symm n04), upd_ne (Ne.symm nt4)]; exact upd_same
    rintro σ H0 ⟨k0, o, o1, o2, o3, t, o4, rfl, ci, nn, f0, f1, f3, f4⟩
    have tr0 := ci.tr
    obtain ⟨c0, c1, c2, c3, ct, c4⟩ := id ci
    refine ⟨CM2 H0 o, ?_, ?_⟩
    · exact ⟨_, rfl, _, 3, o, oddD, ⟨_, _, rfl⟩, rfl, tr0, by decide +kernel, by decide +kernel, by decide +kernel, rfl, rfl⟩
    rintro σ H1 ⟨rfl, rfl⟩
    refine ⟨CM3e H1 C o o1 o2 o3 t o4, ?_, ?_⟩
    · simp only [tMkV, tSeq, tIfS, tNext, tRet, tRetN, tAsg, tDrop, tPar, tCons, tNil, tCB, tVar, tC, tOp, rI, rI0, rU, tTest, tB, tTup, tLst, gName, tIf, tAnd, tOr, tNot, tAndV, tOrV, tNotV, tUn, tCall, tChain, tSl, tNoPart, tPart, tBM, tBM0, tDGet, sDPut, rIxT, rIxL, rMulK, rLenK, rLstK, tTruK, gTup, gCons, gNil, rEq, rNe, scal, tNever, rMulK, rGcd, L2.start, List.map, List.length, List.replicate, List.cons_append, List.nil_append, List.append_nil, List.set, List.set_cons_zero, List.set_cons_succ, List.getElem?_cons_succ, List.getElem?_cons_zero, Option.some.injEq, List.cons.injEq, V.int.injEq, V.str.injEq, V.bl.injEq, V.ref.injEq, and_true, true_and, exists_eq_left, exists_eq_left', exists_eq_right, exists_eq_right', exists_eq, exists_and_left, exists_and_right, and_assoc, exists_false, false_and, and_false, or_false, false_or, reduceCtorEq, Nat.reduceAdd, Nat.reduceSub, List.append_assoc, eq_self, if_true, if_false, Bool.false_eq_true, decide_eq_true_eq, List.length_cons, List.length_nil]
      refine ⟨by decide, fun a0 ha0 => ⟨a0, _, .ref o, oddD, rfl, upd_same, arg_step (Kp.refl _) ha0 tr0, fun v0 d0 I0 x1 x2 x3 x4 x5 x6 => ⟨rfl, ?_⟩⟩⟩
      obtain ⟨q0, w0⟩ := mk_step (Kp.refl _) ha0 x1 x2 x3 x4 x5 x6
      refine ⟨by decide, fun a1 ha1 => ⟨a1, _, .ref o, oddD, rfl, upd_same, arg_step q0 ha1 tr0, fun v1 d1 I1 x1 x2 x3 x4 x5 x6 => ⟨rfl, ?_⟩⟩⟩
      obtain ⟨q1, w1⟩ := mk_step q0 ha1 x1 x2 x3 x4 x5 x6
      refine ⟨by decide, fun a2 ha2 => ⟨a2, _, .ref o, oddD, rfl, upd_same, arg_step (q0.trans q1) ha2 tr0, fun v2 d2 I2 x1 x2 x3 x4 x5 x6 => ⟨rfl, ?_⟩⟩⟩
      obtain ⟨q2, w2⟩ := mk_step (q0.trans q1) ha2 x1 x2 x3 x4 x5 x6
      refine ⟨by decide, fun a3 ha3 => ⟨a3, _, .ref o, oddD, rfl, upd_same, arg_step ((q0.trans q1).trans q2) ha3 tr0, fun v3 d3 I3 x1 x2 x3 x4 x5 x6 => ⟨rfl, ?_⟩⟩⟩
      obtain ⟨q3, w3⟩ := mk_step ((q0.trans q1).trans q2) ha3 x1 x2 x3 x4 x5 x6
      refine ⟨by decide, fun a4 ha4 => ⟨a4, _, .ref o, oddD, rfl, upd_same, arg_step (((q0.trans q1).trans q2).trans q3) ha4 tr0, fun v4 d4 I4 x1 x2 x3 x4 x5 x6 => ⟨rfl, ?_⟩⟩⟩
      obtain ⟨q4, w4⟩ := mk_step (((q0.trans q1).trans q2).trans q3) ha4 x1 x2 x3 x4 x5 x6
      refine ⟨by decide, fun p hp => ?_⟩
      have gp := Kp.new (M := M0) (o := .tup [.ref a0, .ref a1, .ref a2, .ref a3, .ref a4]) hp
      have all := ((((q0.trans q1).trans q2).trans q3).trans q4).trans gp
      refine ⟨_, sqT_mk upd_same, rfl, _, _, rfl, _, _, rfl, _, _, rfl, _, _, rfl, _, _, rfl, rfl, a0, a1, a2, a3, a4, rfl, ⟨⟨[], all _ _ c0 (fun z => z), by simp⟩, ⟨_, all _ _ c1 (fun z => z), by simp⟩, all _ _ c2 (fun z => z), ⟨_, all _ _ c3 (fun z => z), by simp⟩, all _ _ ct (fun z => z), ⟨_, all _ _ c4 (fun z => z), by simp⟩⟩, fun b u z _ _ _ _ => all b u z (fun z => z), w0.keep (fun b u _ z => ?_), w1.keep (fun b u _ z => ?_), w2.keep (fun b u _ z => ?_), w3.keep (fun b u _ z => ?_), w4.keep (fun b u _ z => ?_)⟩
      · exact (((q1.trans q2).trans q3).trans q4).trans gp b u z (fun z => z)
      · exact ((q2.trans q3).trans q4).trans gp b u z (fun z => z)
      · exact (q3.trans q4).trans gp b u z (fun z => z)
      · exact q4.trans gp b u z (fun z => z)
      · exact gp b u z (fun z => z)
    rintro σ H2 ⟨a0, a1, a2, a3, a4, cm⟩
    refine ⟨CM3 2 H1 C o o1 o2 o3 t o4 a0 a1 a2 a3 a4, ?_, ?_⟩
    · obtain ⟨rfl, ow, kp, v0, v1, v2, v3, v4⟩ := cm
      simp only [tSeq, tIfS, tNext, tRet, tRetN, tAsg, tDrop, tPar, tCons, tNil, tCB, tVar, tC, tOp, rI, rI0, rU, tTest, tB, tTup, tLst, gName, tIf, tAnd, tOr, tNot, tAndV, tOrV, tNotV, tUn, tCall, tChain, tSl, tNoPart, tPart, tBM, tBM0, tDGet, sDPut, rIxT, rIxL, rMulK, rLenK, rLstK, tTruK, gTup, gCons, gNil, rEq, rNe, scal, tNever, rMulK, rGcd, L2.start, List.map, List.length, List.replicate, List.cons_append, List.nil_append, List.append_nil, List.set, List.set_cons_zero, List.set_cons_succ, List.getElem?_cons_succ, List.getElem?_cons_zero, Option.some.injEq, List.cons.injEq, V.int.injEq, V.str.injEq, V.bl.injEq, V.ref.injEq, and_true, true_and, exists_eq_left, exists_eq_left', exists_eq_right, exists_eq_right', exists_eq, exists_and_left, exists_and_right, and_assoc, exists_false, false_and, and_false, or_false, false_or, reduceCtorEq, Nat.reduceAdd, Nat.reduceSub, List.append_assoc, eq_self, if_true, if_false, Bool.false_eq_true, decide_eq_true_eq, List.length_cons, List.length_nil]
      obtain ⟨x, eo, lx⟩ := ow.eo
      refine ⟨Or.inl ⟨rfl, _, sqL_mk eo⟩, o, _, _, rfl, rfl, eo, by rw [sizeLine_eq]; simp; omega, ?_⟩
      exact ⟨rfl, ⟨⟨x ++ [.int 5], upd_same, by simp; omega⟩, (by obtain ⟨y, z, l⟩ := ow.e1; exact ⟨y, by rw [upd_ne (Ne.symm nn.n01)]; exact z, by omega⟩), (by rw [upd_ne (Ne.symm nn.n02)]; exact ow.e2), (by obtain ⟨y, z, l⟩ := ow.e3; exact ⟨y, by rw [upd_ne (Ne.symm nn.n03)]; exact z, by omega⟩), (by rw [upd_ne (Ne.symm nn.n0t)]; exact ow.et), (by obtain ⟨y, z, l⟩ := ow.e4; exact ⟨y, by rw [upd_ne (Ne.symm nn.n04)]; exact z, by omega⟩)⟩,
        fun b u z m0 m1 m3 m4 => by rw [upd_ne m0]; exact kp b u z m0 m1 m3 m4, v0.keep (offs c0), v1.keep (offs c0), v2.keep (offs c0), v3.keep (offs c0), v4.keep (offs c0)⟩
    rintro σ H3 ⟨rfl, ow, kp, v0, v1, v2, v3, v4⟩
    refine ⟨CM3 3 H1 C o o1 o2 o3 t o4 a0 a1 a2 a3 a4, ?_, ?_⟩
    · simp only [tSeq, tIfS, tNext, tRet, tRetN, tAsg, tDrop, tPar, tCons, tNil, tCB, tVar, tC, tOp, rI, rI0, rU, tTest, tB, tTup, tLst, gName, tIf, tAnd, tOr, tNot, tAndV, tOrV, tNotV, tUn, tCall, tChain, tSl, tNoPart, tPart, tBM, tBM0, tDGet, sDPut, rIxT, rIxL, rMulK, rLenK, rLstK, tTruK, gTup, gCons, gNil, rEq, rNe, scal, tNever, rMulK, rGcd, L2.start, List.map, List.length, List.replicate, List.cons_append, List.nil_append, List.append_nil, List.set, List.set_cons_zero, List.set_cons_succ, List.getElem?_cons_succ, List.getElem?_cons_zero, Option.some.injEq, List.cons.injEq, V.int.injEq, V.str.injEq, V.bl.injEq, V.ref.injEq, and_true, true_and, exists_eq_left, exists_eq_left', exists_eq_right, exists_eq_right', exists_eq, exists_and_left, exists_and_right, and_assoc, exists_false, false_and, and_false, or_false, false_or, reduceCtorEq, Nat.reduceAdd, Nat.reduceSub, List.append_assoc, eq_self, if_true, if_false, Bool.false_eq_true, decide_eq_true_eq, List.length_cons, List.length_nil]
      obtain ⟨x, em, lx⟩ := ow.e1
      obtain ⟨xo, eo, lxo⟩ := ow.eo
      refine ⟨_, sqL_mk eo, _, atI_nat (j := 1) rfl, ?_⟩
      refine ⟨Or.inl ⟨rfl, _, sqL_mk em⟩, o1, _, _, rfl, rfl, em, by rw [sizeLine_eq]; omega, ?_⟩
      exact ⟨rfl, ⟨(by obtain ⟨y, z, l⟩ := ow.eo; exact ⟨y, by rw [upd_ne nn.n01]; exact z, by omega⟩), ⟨x ++ [_], upd_same, by simp; omega⟩, (by rw [upd_ne (Ne.symm nn.n12)]; exact ow.e2), (by obtain ⟨y, z, l⟩ := ow.e3; exact ⟨y, by rw [upd_ne (Ne.symm nn.n13)]; exact z, by omega⟩), (by rw [upd_ne (Ne.symm nn.n1t)]; exact ow.et), (by obtain ⟨y, z, l⟩ := ow.e4; exact ⟨y, by rw [upd_ne (Ne.symm nn.n14)]; exact z, by omega⟩)⟩,
        fun b u z m0 m1 m3 m4 => by rw [upd_ne m1]; exact kp b u z m0 m1 m3 m4, v0.keep (offs c1), v1.keep (offs c1), v2.keep (offs c1), v3.keep (offs c1), v4.keep (offs c1)⟩
    rintro σ H4 ⟨rfl, ow, kp, v0, v1, v2, v3, v4⟩
    refine ⟨CM3 4 H1 C o o1 o2 o3 t o4 a0 a1 a2 a3 a4, ?_, ?_⟩
    · simp only [tSeq, tIfS, tNext, tRet, tRetN, tAsg, tDrop, tPar, tCons, tNil, tCB, tVar, tC, tOp, rI, rI0, rU, tTest, tB, tTup, tLst, gName, tIf, tAnd, tOr, tNot, tAndV, tOrV, tNotV, tUn, tCall, tChain, tSl, tNoPart, tPart, tBM, tBM0, tDGet, sDPut, rIxT, rIxL, rMulK, rLenK, rLstK, tTruK, gTup, gCons, gNil, rEq, rNe, scal, tNever, rMulK, rGcd, L2.start, List.map, List.length, List.replicate, List.cons_append, List.nil_append, List.append_nil, List.set, List.set_cons_zero, List.set_cons_succ, List.getElem?_cons_succ, List.getElem?_cons_zero, Option.some.injEq, List.cons.injEq, V.int.injEq, V.str.injEq, V.bl.injEq, V.ref.injEq, and_true, true_and, exists_eq_left, exists_eq_left', exists_eq_right, exists_eq_right', exists_eq, exists_and_left, exists_and_right, and_assoc, exists_false, false_and, and_false, or_false, false_or, reduceCtorEq, Nat.reduceAdd, Nat.reduceSub, List.append_assoc, eq_self, if_true, if_false, Bool.false_eq_true, decide_eq_true_eq, List.length_cons, List.length_nil]
      obtain ⟨x, em, lx⟩ := ow.e3
      obtain ⟨xo, eo, lxo⟩ := ow.eo
      refine ⟨_, sqL_mk eo, _, atI_nat (j := 2) rfl, o2, rfl, _, DGet.k (k := Sum.inr "a") ow.e2, ?_⟩
      refine ⟨Or.inl ⟨rfl, _, sqL_mk em⟩, o3, _, _, rfl, rfl, em, by rw [sizeLine_eq]; omega, ?_⟩
      exact ⟨rfl, ⟨(by obtain ⟨y, z, l⟩ := ow.eo; exact ⟨y, by rw [upd_ne nn.n03]; exact z, by omega⟩), (by obtain ⟨y, z, l⟩ := ow.e1; exact ⟨y, by rw [upd_ne nn.n13]; exact z, by omega⟩), (by rw [upd_ne nn.n23]; exact ow.e2), ⟨x ++ [_], upd_same, by simp; omega⟩, (by rw [upd_ne (Ne.symm nn.n3t)]; exact ow.et), (by obtain ⟨y, z, l⟩ := ow.e4; exact ⟨y, by rw [upd_ne (Ne.symm nn.n34)]; exact z, by omega⟩)⟩,
        fun b u z m0 m1 m3 m4 => by rw [upd_ne m3]; exact kp b u z m0 m1 m3 m4, v0.keep (offs c3), v1.keep (offs c3), v2.keep (offs c3), v3.keep (offs c3), v4.keep (offs c3)⟩
    rintro σ H5 ⟨rfl, ow, kp, v0, v1, v2, v3, v4⟩
    refine ⟨CM3 5 H1 C o o1 o2 o3 t o4 a0 a1 a2 a3 a4, ?_, ?_⟩
    · simp only [tSeq, tIfS, tNext, tRet, tRetN, tAsg, tDrop, tPar, tCons, tNil, tCB, tVar, tC, tOp, rI, rI0, rU, tTest, tB, tTup, tLst, gName, tIf, tAnd, tOr, tNot, tAndV, tOrV, tNotV, tUn, tCall, tChain, tSl, tNoPart, tPart, tBM, tBM0, tDGet, sDPut, rIxT, rIxL, rMulK, rLenK, rLstK, tTruK, gTup, gCons, gNil, rEq, rNe, scal, tNever, rMulK, rGcd, L2.start, List.map, List.length, List.replicate, List.cons_append, List.nil_append, List.append_nil, List.set, List.set_cons_zero, List.set_cons_succ, List.getElem?_cons_succ, List.getElem?_cons_zero, Option.some.injEq, List.cons.injEq, V.int.injEq, V.str.injEq, V.bl.injEq, V.ref.injEq, and_true, true_and, exists_eq_left, exists_eq_left', exists_eq_right, exists_eq_right', exists_eq, exists_and_left, exists_and_right, and_assoc, exists_false, false_and, and_false, or_false, false_or, reduceCtorEq, Nat.reduceAdd, Nat.reduceSub, List.append_assoc, eq_self, if_true, if_false, Bool.false_eq_true, decide_eq_true_eq, List.length_cons, List.length_nil]
      obtain ⟨x, em, lx⟩ := ow.e4
      obtain ⟨xo, eo, lxo⟩ := ow.eo
      refine ⟨_, sqL_mk eo, _, atI_nat (j := 3) rfl, t, rfl, _, sqT_mk ow.et, _, atI_nat (j := 1) rfl, ?_⟩
      refine ⟨Or.inl ⟨rfl, _, sqL_mk em⟩, o4, _, _, rfl, rfl, em, by rw [sizeLine_eq]; omega, ?_⟩
      exact ⟨rfl, ⟨(by obtain ⟨y, z, l⟩ := ow.eo; exact ⟨y, by rw [upd_ne nn.n04]; exact z, by omega⟩), (by obtain ⟨y, z, l⟩ := ow.e1; exact ⟨y, by rw [upd_ne nn.n14]; exact z, by omega⟩), (by rw [upd_ne nn.n24]; exact ow.e2), (by obtain ⟨y, z, l⟩ := ow.e3; exact ⟨y, by rw [upd_ne nn.n34]; exact z, by omega⟩), (by rw [upd_ne nn.nt4]; exact ow.et), ⟨x ++ [_], upd_same, by simp; omega⟩⟩,
        fun b u z m0 m1 m3 m4 => by rw [upd_ne m4]; exact kp b u z m0 m1 m3 m4, v0.keep (offs c4), v1.keep (offs c4), v2.keep (offs c4), v3.keep (offs c4), v4.keep (offs c4)⟩
    rintro σ H6 ⟨rfl, ow, kp, v0, v1, v2, v3, v4⟩
    obtain ⟨d0, w0, _, _, p0, q0, t0⟩ := v0
    obtain ⟨d1, w1, _, _, p1, q1, t1⟩ := v1
    obtain ⟨d2, w2, _, _, p2, q2, t2⟩ := v2
    obtain ⟨d3, w3, _, _, p3, q3, t3⟩ := v3
    obtain ⟨d4, w4, _, _, p4, q4, t4⟩ := v4
    have ka : Kp M0 H H6 := fun b u z _ => kp b u (k0 b u z (fun z => z)) (ne_of_none z f0) (ne_of_none z f1) (ne_of_none z f3) (ne_of_none z f4)
    refine ⟨CM8 H (fun b => H1 b = none) [some (.ref o), some (.str oddD.shown), some (.ref a0), some (.ref a1), some (.ref a2), some (.ref a3), some (.ref a4)], ?_, ?_⟩
    · simp only [tFldO, tSeq, tIfS, tNext, tRet, tRetN, tAsg, tDrop, tPar, tCons, tNil, tCB, tVar, tC, tOp, rI, rI0, rU, tTest, tB, tTup, tLst, gName, tIf, tAnd, tOr, tNot, tAndV, tOrV, tNotV, tUn, tCall, tChain, tSl, tNoPart, tPart, tBM, tBM0, tDGet, sDPut, rIxT, rIxL, rMulK, rLenK, rLstK, tTruK, gTup, gCons, gNil, rEq, rNe, scal, tNever, rMulK, rGcd, L2.start, List.map, List.length, List.replicate, List.cons_append, List.nil_append, List.append_nil, List.set, List.set_cons_zero, List.set_cons_succ, List.getElem?_cons_succ, List.getElem?_cons_zero, Option.some.injEq, List.cons.injEq, V.int.injEq, V.str.injEq, V.bl.injEq, V.ref.injEq, and_true, true_and, exists_eq_left, exists_eq_left', exists_eq_right, exists_eq_right', exists_eq, exists_and_left, exists_and_right, and_assoc, exists_false, false_and, and_false, or_false, false_or, reduceCtorEq, Nat.reduceAdd, Nat.reduceSub, List.append_assoc, eq_self, if_true, if_false, Bool.false_eq_true, decide_eq_true_eq, List.length_cons, List.length_nil]
      refine ⟨d0, p0, _, q0, w0, by simp [List.lookup], d1, p1, _, q1, w1, by simp [List.lookup], d2, p2, _, q2, w2, by simp [List.lookup], d3, p3, _, q3, w3, by simp [List.lookup], d4, p4, _, q4, w4, by simp [List.lookup], by decide, fun p hp => ?_⟩
      have gp := Kp.new (M := M0) (o := .lst [w0, w1, w2, w3, w4]) hp
      have tk : ∀ {x : V}, TrI H6 (fun b => H1 b = none) 3 x oddD → TrI (upd H6 p (.lst [w0, w1, w2, w3, w4])) (fun b => H1 b = none) 3 x oddD := fun h => h.keep (fun b z => z) fun b u _ z => gp b u z (fun z => z)
      refine ⟨p, _, rfl, ka.trans gp, upd_same, rfl, fun x hx => ?_⟩
      simp only [List.mem_cons, List.not_mem_nil, or_false] at hx
      rcases hx with rfl | rfl | rfl | rfl | rfl
      · exact tk t0
      · exact tk t1
      · exact tk t2
      · exact tk t3
      · exact tk t4
    rintro σ H7 ⟨p, ws, rfl, kb, ep, wl, all⟩
    simp only [List.cons_append, List.nil_append, tSeq, tIfS, tNext, tRet, tRetN, tAsg, tDrop, tPar, tCons, tNil, tCB, tVar, tC, tOp, rI, rI0, rU, tTest, tB, tTup, tLst, gName, tIf, tAnd, tOr, tNot, tAndV, tOrV, tNotV, tUn, tCall, tChain, tSl, tNoPart, tPart, tBM, tBM0, tDGet, sDPut, rIxT, rIxL, rMulK, rLenK, rLstK, tTruK, gTup, gCons, gNil, rEq, rNe, scal, tNever, rMulK, rGcd, L2.start, List.map, List.length, List.replicate, List.cons_append, List.nil_append, List.append_nil, List.set, List.set_cons_zero, List.set_cons_succ, List.getElem?_cons_succ, List.getElem?_cons_zero, Option.some.injEq, List.cons.injEq, V.int.injEq, V.str.injEq, V.bl.injEq, V.ref.injEq, and_true, true_and, exists_eq_left, exists_eq_left', exists_eq_right, exists_eq_right', exists_eq, exists_and_left, exists_and_right, and_assoc, exists_false, false_and, and_false, or_false, false_or, reduceCtorEq, Nat.reduceAdd, Nat.reduceSub, List.append_assoc, eq_self, if_true, if_false, Bool.false_eq_true, decide_eq_true_eq, List.length_cons, List.length_nil]
    refine tlcL ?_
    refine ⟨_, rfl, p, rfl, ⟨ws, sqL_mk ep⟩, fun D hD => ?_⟩
    refine lc_list (xs := ws) (CpS H7 D) ⟨Kp.new hD, upd_same⟩ (fun i H' _ c => sqL_mk (c.1 p _ ep (fun z => z))) (fun i x H' hx c => ?_) (fun H' c => ?_)
    · refine ⟨wipe1 _ _ _, ?_⟩
      have il : i < 5 := by have := (List.getElem?_eq_some_iff.mp hx).1; omega
      have tx := (all x (List.mem_of_getElem? hx)).keep (S' := fun b => H1 b = none) (H' := H') (fun b z => z) fun b u _ z => c.1 b u z (fun z => z)
      obtain ⟨b, rfl⟩ : ∃ b, x = V.ref b := by
        cases tx with
        | lst => exact ⟨_, rfl⟩
      show tCB rReprT (tCons (tVar 8) tNil) _ H' _
      refine ⟨_, rfl, _, 3, b, oddD, ⟨_, _, rfl⟩, rfl, tx, by decide +kernel, by decide +kernel, by decide +kernel, _, c.2, by rw [List.length_replicate, sizeLine_eq]; omega, c.1.at hD, ?_⟩
      rw [List.replicate_succ']; exact upd_same
    · obtain ⟨kc, ed⟩ := c
      rw [wl] at ed
      refine ⟨by decide, fun e he => ?_⟩
      have g1 := Kp.new (M := M0) (o := .lst [.str oddD.shown]) he
      refine ⟨e, 5, _, rfl, rfl, upd_same, by decide, by decide, by rw [sizeLine_eq]; decide, fun e2 he2 => ?_⟩
      have g2 := Kp.new (M := M0) (o := .lst (List.replicate (5 : Int).toNat [V.str oddD.shown]).flatten) he2
      have allS : ∀ (H : Hp) (n : Nat), DpAll K H (List.replicate n (V.str oddD.shown)) (List.replicate n (PyData.str oddD.shown)) := fun H n => by
        induction n with
        | zero => exact .nil
        | succ n ih => exact .cons (.str _) ih
      have fl : (List.replicate (5 : Int).toNat [V.str oddD.shown]).flatten = List.replicate 5 (V.str oddD.shown) := rfl
      have sh : SeqAt.shaped (.list (List.replicate 5 (PyData.str oddD.shown))) = true := by decide +kernel
      have ev : PyData.eqv (.list (List.replicate 5 (PyData.str oddD.shown))) (.list (List.replicate 5 (PyData.str oddD.shown))) = true := by decide +kernel
      refine ⟨_, _, .lst (sqL_mk ((g1.trans g2) D _ ed (fun z => z))) (allS _ 5), .lst (sqL_mk upd_same) (by rw [fl]; exact allS _ 5), sh, sh, ?_⟩
      rw [ev]
      exact k _ (((kb.trans kc).trans g1).trans g2)
end
end G
set_option Elab.async false
set_option linter.all false
set_option maxRecDepth 100000
namespace G
open PySem L2 NdefX
theorem topSuper : (PySem.Challenge.rw_gapwise_k01_points.prog.main.scope.names.lookup ("super" : Str)).isSome = false := by decide +kernel
theorem noFields {K : PySem.W.Frag} {C : Addr} {a b c : Str} (h1 : PySem.W.findIn K (.ref C) a = some none) (h2 : PySem.W.findIn K (.ref C) b = some none) (h3 : PySem.W.findIn K (.ref C) c = some none) : ∀ y ∈ [a, b, c], PySem.W.findIn K (.ref C) y = some none := fun y h => by
  simp only [List.mem_cons, List.not_mem_nil, or_false] at h
  rcases h with rfl | rfl | rfl
  · exact h1
  · exact h2
  · exact h3
theorem bX_BadPoint {K : PySem.W.Frag} (f cc cda : Addr) (kV doc pm ct : Value) (an : Option Addr) : Binds K (PySem.W.fnX "__init__" "BadPoint.__init__" (C8.fnArgs sIni) (C8.fnBody sIni) (C8.fnScope sIni) [(("__class__" : Str), cc)] .none kV doc pm an (.ref cda) ct) ["self", "p", "q"] [] :=
  Binds.all fun us hl => match us, hl with | [_, _, _], _ => rfl
theorem bX_BadName {K : PySem.W.Frag} (f cc cda : Addr) (kV doc pm ct : Value) (an : Option Addr) : Binds K (PySem.W.fnX "__init__" "BadName.__init__" (C8.fnArgs (sIniAt 8)) (C8.fnBody (sIniAt 8)) (C8.fnScope (sIniAt 8)) [(("__class__" : Str), cc)] .none kV doc pm an (.ref cda) ct) ["self", "name"] [] :=
  Binds.all fun us hl => match us, hl with | [_, _], _ => rfl
theorem bX_UnknownName {K : PySem.W.Frag} (f cc cda : Addr) (kV doc pm ct : Value) (an : Option Addr) : Binds K (PySem.W.fnX "__init__" "UnknownName.__init__" (C8.fnArgs (sIniAt 12)) (C8.fnBody (sIniAt 12)) (C8.fnScope (sIniAt 12)) [(("__class__" : Str), cc)] .none kV doc pm an (.ref cda) ct) ["self", "name"] [] :=
  Binds.all fun us hl => match us, hl with | [_, _], _ => rfl
theorem bX_NoMember {K : PySem.W.Frag} (f cc cda : Addr) (kV doc pm ct : Value) (an : Option Addr) : Binds K (PySem.W.fnX "__init__" "NoMember.__init__" (C8.fnArgs (sIniAt 10)) (C8.fnBody (sIniAt 10)) (C8.fnScope (sIniAt 10)) [(("__class__" : Str), cc)] .none kV doc pm an (.ref cda) ct) ["self", "value"] [] :=
  Binds.all fun us hl => match us, hl with | [_, _], _ => rfl
theorem bX_NoPoint {K : PySem.W.Frag} (f cc cda : Addr) (kV doc pm ct : Value) (an : Option Addr) : Binds K (PySem.W.fnX "__init__" "NoPoint.__init__" (C8.fnArgs (sIniAt 9)) (C8.fnBody (sIniAt 9)) (C8.fnScope (sIniAt 9)) [(("__class__" : Str), cc)] .none kV doc pm an (.ref cda) ct) ["self", "point"] [] :=
  Binds.all fun us hl => match us, hl with | [_, _], _ => rfl
theorem bX_NoDeed {K : PySem.W.Frag} (f cc cda : Addr) (kV doc pm ct : Value) (an : Option Addr) : Binds K (PySem.W.fnX "__init__" "NoDeed.__init__" (C8.fnArgs (sIniAt 11)) (C8.fnBody (sIniAt 11)) (C8.fnScope (sIniAt 11)) [(("__class__" : Str), cc)] .none kV doc pm an (.ref cda) ct) ["self", "number"] [] :=
  Binds.all fun us hl => match us, hl with | [_, _], _ => rfl
theorem all_mk {w : World} {K : PySem.W.Frag} {h : Heap} {mg : Str → Option Value} {fa f0 f1 f2 f3 f4 f5 f6 f7 f8 f9 f10 f11 f12 f13 : Addr} (X : K.In h) (G : h.Ns mainGlobals mg) (hfa : mg "law" = some (.ref fa))
    {od0 an0 : Option Addr} {sl0 : Array (Option Value)} {oc0 kV0 dc0 pm0 cd0 ct0 : Value} {od1 an1 : Option Addr} {sl1 : Array (Option Value)} {oc1 kV1 dc1 pm1 cd1 ct1 : Value} {od2 an2 : Option Addr} {sl2 : Array (Option Value)} {oc2 kV2 dc2 pm2 cd2 ct2 : Value} {od3 an3 : Option Addr} {sl3 : Array (Option Value)} {oc3 kV3 dc3 pm3 cd3 ct3 : Value} {od4 an4 : Option Addr} {sl4 : Array (Option Value)} {oc4 kV4 dc4 pm4 cd4 ct4 : Value} {od5 an5 : Option Addr} {sl5 : Array (Option Value)} {oc5 kV5 dc5 pm5 cd5 ct5 : Value} {od6 an6 : Option Addr} {sl6 : Array (Option Value)} {oc6 kV6 dc6 pm6 cd6 ct6 : Value} {od7 an7 : Option Addr} {sl7 : Array (Option Value)} {oc7 kV7 dc7 pm7 cd7 ct7 : Value} {od8 an8 : Option Addr} {sl8 : Array (Option Value)} {oc8 kV8 dc8 pm8 cd8 ct8 : Value} {od9 an9 : Option Addr} {sl9 : Array (Option Value)} {oc9 kV9 dc9 pm9 cd9 ct9 : Value} {od10 an10 : Option Addr} {sl10 : Array (Option Value)} {oc10 kV10 dc10 pm10 cd10 ct10 : Value} {od11 an11 : Option Addr} {sl11 : Array (Option Value)} {oc11 kV11 dc11 pm11 cd11 ct11 : Value} {od12 an12 : Option Addr} {sl12 : Array (Option Value)} {oc12 kV12 dc12 pm12 cd12 ct12 : Value} {od13 an13 : Option Addr} {sl13 : Array (Option Value)} {oc13 kV13 dc13 pm13 cd13 ct13 : Value} {CL CN : Addr}
    {C_BadPoint f_BadPoint cc_BadPoint cda_BadPoint N_BadPoint : Addr} {nm_BadPoint q_BadPoint : Str} {bs_BadPoint sub_BadPoint : List Value} {sn_BadPoint : List Str} {ab_BadPoint : Bool} {col_BadPoint : Option Bool} {dd_BadPoint : Option Addr} {ka_BadPoint kb_BadPoint kc_BadPoint kd_BadPoint ke_BadPoint : Option Value}
    {oc_BadPoint kV_BadPoint doc_BadPoint pm_BadPoint ct_BadPoint ccl_BadPoint cl_BadPoint : Value} {od_BadPoint an_BadPoint cdd_BadPoint cld_BadPoint : Option Addr} {osl_BadPoint ccs_BadPoint csl_BadPoint : Array (Option Value)} {vs_BadPoint : Array Value} {file_BadPoint : Str} {tf_BadPoint : Tok}
    {C_BadName f_BadName cc_BadName cda_BadName N_BadName : Addr} {nm_BadName q_BadName : Str} {bs_BadName sub_BadName : List Value} {sn_BadName : List Str} {ab_BadName : Bool} {col_BadName : Option Bool} {dd_BadName : Option Addr} {ka_BadName kb_BadName kc_BadName kd_BadName ke_BadName : Option Value}
    {oc_BadName kV_BadName doc_BadName pm_BadName ct_BadName ccl_BadName cl_BadName : Value} {od_BadName an_BadName cdd_BadName cld_BadName : Option Addr} {osl_BadName ccs_BadName csl_BadName : Array (Option Value)} {vs_BadName : Array Value} {file_BadName : Str} {tf_BadName : Tok}
    {C_UnknownName f_UnknownName cc_UnknownName cda_UnknownName N_UnknownName : Addr} {nm_UnknownName q_UnknownName : Str} {bs_UnknownName sub_UnknownName : List Value} {sn_UnknownName : List Str} {ab_UnknownName : Bool} {col_UnknownName : Option Bool} {dd_UnknownName : Option Addr} {ka_UnknownName kb_UnknownName kc_UnknownName kd_UnknownName ke_UnknownName : Option Value}
    {oc_UnknownName kV_UnknownName doc_UnknownName pm_UnknownName ct_UnknownName ccl_UnknownName cl_UnknownName : Value} {od_UnknownName an_UnknownName cdd_UnknownName cld_UnknownName : Option Addr} {osl_UnknownName ccs_UnknownName csl_UnknownName : Array (Option Value)} {vs_UnknownName : Array Value} {file_UnknownName : Str} {tf_UnknownName : Tok}
    {C_NoMember f_NoMember cc_NoMember cda_NoMember N_NoMember : Addr} {nm_NoMember q_NoMember : Str} {bs_NoMember sub_NoMember : List Value} {sn_NoMember : List Str} {ab_NoMember : Bool} {col_NoMember : Option Bool} {dd_NoMember : Option Addr} {ka_NoMember kb_NoMember kc_NoMember kd_NoMember ke_NoMember : Option Value}
    {oc_NoMember kV_NoMember doc_NoMember pm_NoMember ct_NoMember ccl_NoMember cl_NoMember : Value} {od_NoMember an_NoMember cdd_NoMember cld_NoMember : Option Addr} {osl_NoMember ccs_NoMember csl_NoMember : Array (Option Value)} {vs_NoMember : Array Value} {file_NoMember : Str} {tf_NoMember : Tok}
    {C_NoPoint f_NoPoint cc_NoPoint cda_NoPoint N_NoPoint : Addr} {nm_NoPoint q_NoPoint : Str} {bs_NoPoint sub_NoPoint : List Value} {sn_NoPoint : List Str} {ab_NoPoint : Bool} {col_NoPoint : Option Bool} {dd_NoPoint : Option Addr} {ka_NoPoint kb_NoPoint kc_NoPoint kd_NoPoint ke_NoPoint : Option Value}
    {oc_NoPoint kV_NoPoint doc_NoPoint pm_NoPoint ct_NoPoint ccl_NoPoint cl_NoPoint : Value} {od_NoPoint an_NoPoint cdd_NoPoint cld_NoPoint : Option Addr} {osl_NoPoint ccs_NoPoint csl_NoPoint : Array (Option Value)} {vs_NoPoint : Array Value} {file_NoPoint : Str} {tf_NoPoint : Tok}
    {C_NoDeed f_NoDeed cc_NoDeed cda_NoDeed N_NoDeed : Addr} {nm_NoDeed q_NoDeed : Str} {bs_NoDeed sub_NoDeed : List Value} {sn_NoDeed : List Str} {ab_NoDeed : Bool} {col_NoDeed : Option Bool} {dd_NoDeed : Option Addr} {ka_NoDeed kb_NoDeed kc_NoDeed kd_NoDeed ke_NoDeed : Option Value}
    {oc_NoDeed kV_NoDeed doc_NoDeed pm_NoDeed ct_NoDeed ccl_NoDeed cl_NoDeed : Value} {od_NoDeed an_NoDeed cdd_NoDeed cld_NoDeed : Option Addr} {osl_NoDeed ccs_NoDeed csl_NoDeed : Array (Option Value)} {vs_NoDeed : Array Value} {file_NoDeed : Str} {tf_NoDeed : Tok}
    (a0 : PySem.W.nsIn K mainGlobals "copied" = some (some (.ref f0))) (l0 : K.lookup f0 = some ⟨oc0, od0, .func (PySem.W.fnOf "copied" "copied" (defArgs s_copied) (defBody s_copied) (defScope s_copied) .none kV0 dc0 pm0 an0 cd0 ct0), sl0⟩) (c0 : PySem.W.codeIn K cd0 "copied" = true) (k0 : PySem.W.keepIn K (.ref f0) = true)
    (a1 : PySem.W.nsIn K mainGlobals "parts_in" = some (some (.ref f1))) (l1 : K.lookup f1 = some ⟨oc1, od1, .func (PySem.W.fnOf "parts_in" "parts_in" (defArgs s_parts_in) (defBody s_parts_in) (defScope s_parts_in) .none kV1 dc1 pm1 an1 cd1 ct1), sl1⟩) (c1 : PySem.W.codeIn K cd1 "parts_in" = true) (k1 : PySem.W.keepIn K (.ref f1) = true)
    (a2 : PySem.W.nsIn K mainGlobals "put_together" = some (some (.ref f2))) (l2 : K.lookup f2 = some ⟨oc2, od2, .func (PySem.W.fnOf "put_together" "put_together" (defArgs s_put_together) (defBody s_put_together) (defScope s_put_together) .none kV2 dc2 pm2 an2 cd2 ct2), sl2⟩) (c2 : PySem.W.codeIn K cd2 "put_together" = true) (k2 : PySem.W.keepIn K (.ref f2) = true)
    (a3 : PySem.W.nsIn K mainGlobals "make_point" = some (some (.ref f3))) (l3 : K.lookup f3 = some ⟨oc3, od3, .func (PySem.W.fnOf "make_point" "make_point" (defArgs s_make_point) (defBody s_make_point) (defScope s_make_point) .none kV3 dc3 pm3 an3 cd3 ct3), sl3⟩) (c3 : PySem.W.codeIn K cd3 "make_point" = true) (k3 : PySem.W.keepIn K (.ref f3) = true)
    (a4 : PySem.W.nsIn K mainGlobals "is_before" = some (some (.ref f4))) (l4 : K.lookup f4 = some ⟨oc4, od4, .func (PySem.W.fnOf "is_before" "is_before" (defArgs s_is_before) (defBody s_is_before) (defScope s_is_before) .none kV4 dc4 pm4 an4 cd4 ct4), sl4⟩) (c4 : PySem.W.codeIn K cd4 "is_before" = true) (k4 : PySem.W.keepIn K (.ref f4) = true)
    (a5 : PySem.W.nsIn K mainGlobals "_law_open_cells" = some (some (.ref f5))) (l5 : K.lookup f5 = some ⟨oc5, od5, .func (PySem.W.fnOf "_law_open_cells" "_law_open_cells" (defArgs s__law_open_cells) (defBody s__law_open_cells) (defScope s__law_open_cells) .none kV5 dc5 pm5 an5 cd5 ct5), sl5⟩) (c5 : PySem.W.codeIn K cd5 "_law_open_cells" = true) (k5 : PySem.W.keepIn K (.ref f5) = true)
    (a6 : PySem.W.nsIn K mainGlobals "_law_pick" = some (some (.ref f6))) (l6 : K.lookup f6 = some ⟨oc6, od6, .func (PySem.W.fnOf "_law_pick" "_law_pick" (defArgs s__law_pick) (defBody s__law_pick) (defScope s__law_pick) .none kV6 dc6 pm6 an6 cd6 ct6), sl6⟩) (c6 : PySem.W.codeIn K cd6 "_law_pick" = true) (k6 : PySem.W.keepIn K (.ref f6) = true)
    (a7 : PySem.W.nsIn K mainGlobals "_law_point" = some (some (.ref f7))) (l7 : K.lookup f7 = some ⟨oc7, od7, .func (PySem.W.fnOf "_law_point" "_law_point" (defArgs s__law_point) (defBody s__law_point) (defScope s__law_point) .none kV7 dc7 pm7 an7 cd7 ct7), sl7⟩) (c7 : PySem.W.codeIn K cd7 "_law_point" = true) (k7 : PySem.W.keepIn K (.ref f7) = true)
    (a8 : PySem.W.nsIn K mainGlobals "_law_less" = some (some (.ref f8))) (l8 : K.lookup f8 = some ⟨oc8, od8, .func (PySem.W.fnOf "_law_less" "_law_less" (defArgs s__law_less) (defBody s__law_less) (defScope s__law_less) .none kV8 dc8 pm8 an8 cd8 ct8), sl8⟩) (c8 : PySem.W.codeIn K cd8 "_law_less" = true) (k8 : PySem.W.keepIn K (.ref f8) = true)
    (a9 : PySem.W.nsIn K mainGlobals "_law_whole" = some (some (.ref f9))) (l9 : K.lookup f9 = some ⟨oc9, od9, .func (PySem.W.fnOf "_law_whole" "_law_whole" (defArgs s__law_whole) (defBody s__law_whole) (defScope s__law_whole) .none kV9 dc9 pm9 an9 cd9 ct9), sl9⟩) (c9 : PySem.W.codeIn K cd9 "_law_whole" = true) (k9 : PySem.W.keepIn K (.ref f9) = true)
    (a10 : PySem.W.nsIn K mainGlobals "_law_refused" = some (some (.ref f10))) (l10 : K.lookup f10 = some ⟨oc10, od10, .func (PySem.W.fnOf "_law_refused" "_law_refused" (defArgs s__law_refused) (defBody s__law_refused) (defScope s__law_refused) .none kV10 dc10 pm10 an10 cd10 ct10), sl10⟩) (c10 : PySem.W.codeIn K cd10 "_law_refused" = true) (k10 : PySem.W.keepIn K (.ref f10) = true)
    (a11 : PySem.W.nsIn K mainGlobals "_law_is_pair" = some (some (.ref f11))) (l11 : K.lookup f11 = some ⟨oc11, od11, .func (PySem.W.fnOf "_law_is_pair" "_law_is_pair" (defArgs s__law_is_pair) (defBody s__law_is_pair) (defScope s__law_is_pair) .none kV11 dc11 pm11 an11 cd11 ct11), sl11⟩) (c11 : PySem.W.codeIn K cd11 "_law_is_pair" = true) (k11 : PySem.W.keepIn K (.ref f11) = true)
    (a12 : PySem.W.nsIn K mainGlobals "_law_copies_right" = some (some (.ref f12))) (l12 : K.lookup f12 = some ⟨oc12, od12, .func (PySem.W.fnOf "_law_copies_right" "_law_copies_right" (defArgs s__law_copies_right) (defBody s__law_copies_right) (defScope s__law_copies_right) .none kV12 dc12 pm12 an12 cd12 ct12), sl12⟩) (c12 : PySem.W.codeIn K cd12 "_law_copies_right" = true) (k12 : PySem.W.keepIn K (.ref f12) = true)
    (a13 : PySem.W.nsIn K mainGlobals "law" = some (some (.ref f13))) (l13 : K.lookup f13 = some ⟨oc13, od13, .func (PySem.W.fnOf "law" "law" (defArgs s_law) (defBody s_law) (defScope s_law) .none kV13 dc13 pm13 an13 cd13 ct13), sl13⟩) (c13 : PySem.W.codeIn K cd13 "law" = true) (k13 : PySem.W.keepIn K (.ref f13) = true)
    (z_abs : PySem.W.nsIn K mainGlobals "abs" = some none)
    (z_int : PySem.W.nsIn K mainGlobals "int" = some none)
    (z_len : PySem.W.nsIn K mainGlobals "len" = some none)
    (z_range : PySem.W.nsIn K mainGlobals "range" = some none)
    (z_all : PySem.W.nsIn K mainGlobals "all" = some none)
    (z_list : PySem.W.nsIn K mainGlobals "list" = some none)
    (z_tuple : PySem.W.nsIn K mainGlobals "tuple" = some none)
    (z_isinstance : PySem.W.nsIn K mainGlobals "isinstance" = some none)
    (z_repr : PySem.W.nsIn K mainGlobals "repr" = some none)
    (z_bool : PySem.W.nsIn K mainGlobals "bool" = some none)
    (z_dict : PySem.W.nsIn K mainGlobals "dict" = some none)
    (i_gcd : PySem.W.nsIn K mainGlobals "gcd" = some (some (.builtin "math.gcd")))
    (gLine : PySem.W.nsIn K mainGlobals "LineError" = some (some (.ref CL)))
    (gBadPoint : PySem.W.nsIn K mainGlobals "BadPoint" = some (some (.ref C_BadPoint)))
    (xBadPoint : K.lookup C_BadPoint = some (excClassObj nm_BadPoint q_BadPoint C_BadPoint N_BadPoint bs_BadPoint [.ref CL, .type "ValueError", .type "Exception", .type "BaseException", .type "object"] true sn_BadPoint sub_BadPoint ab_BadPoint col_BadPoint dd_BadPoint ka_BadPoint kb_BadPoint kc_BadPoint kd_BadPoint ke_BadPoint "ValueError.__new__"))
    (saBadPoint : PySem.W.findIn K (.ref C_BadPoint) "__setattr__" = some (some (.builtin "object.__setattr__")))
    (exBadPoint : PySem.W.subIn K (.ref C_BadPoint) (.type "BaseException") = some true)
    (tyBadPoint : PySem.W.typeIn K (.ref C_BadPoint) = some (.type "type"))
    (kpBadPoint : PySem.W.keepIn K (.ref C_BadPoint) = true)
    (suBadPoint : PySem.W.ks_superIn K C_BadPoint C_BadPoint "__init__" = some (some (.builtin "ValueError.__init__")))
    (sbBadPoint : PySem.W.subIn K (.ref C_BadPoint) (.type "ValueError") = some true)
    (owBadPoint : PySem.W.mroIn K C_BadPoint (.ref C_BadPoint) = some true)
    (inBadPoint : PySem.W.findIn K (.ref C_BadPoint) "__init__" = some (some (.ref f_BadPoint)))
    (tiBadPoint : PySem.W.typeIn K (.ref f_BadPoint) = some (.type "function"))
    (lfBadPoint : K.lookup f_BadPoint = some ⟨oc_BadPoint, od_BadPoint, .func (PySem.W.fnX "__init__" "BadPoint.__init__" (C8.fnArgs sIni) (C8.fnBody sIni) (C8.fnScope sIni) [(("__class__" : Str), cc_BadPoint)] .none kV_BadPoint doc_BadPoint pm_BadPoint an_BadPoint (.ref cda_BadPoint) ct_BadPoint), osl_BadPoint⟩)
    (cdBadPoint : PySem.W.codeIn K (.ref cda_BadPoint) "BadPoint.__init__" = true)
    (lcBadPoint : K.lookup cda_BadPoint = some ⟨ccl_BadPoint, cdd_BadPoint, .fields vs_BadPoint, ccs_BadPoint⟩)
    (fiBadPoint : vs_BadPoint[2]? = some (.str file_BadPoint tf_BadPoint))
    (fqBadPoint : ((PySem.Challenge.pw_gapwise_k01_points.main.file : Str) == file_BadPoint) = true)
    (ceBadPoint : K.lookup cc_BadPoint = some ⟨cl_BadPoint, cld_BadPoint, .cell (some (.ref C_BadPoint)), csl_BadPoint⟩)
    (gaBadPoint : PySem.W.findIn K (.ref C_BadPoint) "__getattribute__" = some (some (.builtin "BaseException.__getattribute__")))
    (ggBadPoint : PySem.W.findIn K (.ref C_BadPoint) "__getattr__" = some none)
    (hdBadPoint : PySem.W.hasDictIn K C_BadPoint = true)
    (nocalledBadPoint : PySem.W.findIn K (.ref C_BadPoint) "called" = some none)
    (nopBadPoint : PySem.W.findIn K (.ref C_BadPoint) "p" = some none)
    (noqBadPoint : PySem.W.findIn K (.ref C_BadPoint) "q" = some none)
    (gBadName : PySem.W.nsIn K mainGlobals "BadName" = some (some (.ref C_BadName)))
    (xBadName : K.lookup C_BadName = some (excClassObj nm_BadName q_BadName C_BadName N_BadName bs_BadName [.ref CL, .type "ValueError", .type "Exception", .type "BaseException", .type "object"] true sn_BadName sub_BadName ab_BadName col_BadName dd_BadName ka_BadName kb_BadName kc_BadName kd_BadName ke_BadName "ValueError.__new__"))
    (saBadName : PySem.W.findIn K (.ref C_BadName) "__setattr__" = some (some (.builtin "object.__setattr__")))
    (exBadName : PySem.W.subIn K (.ref C_BadName) (.type "BaseException") = some true)
    (tyBadName : PySem.W.typeIn K (.ref C_BadName) = some (.type "type"))
    (kpBadName : PySem.W.keepIn K (.ref C_BadName) = true)
    (suBadName : PySem.W.ks_superIn K C_BadName C_BadName "__init__" = some (some (.builtin "ValueError.__init__")))
    (sbBadName : PySem.W.subIn K (.ref C_BadName) (.type "ValueError") = some true)
    (owBadName : PySem.W.mroIn K C_BadName (.ref C_BadName) = some true)
    (inBadName : PySem.W.findIn K (.ref C_BadName) "__init__" = some (some (.ref f_BadName)))
    (tiBadName : PySem.W.typeIn K (.ref f_BadName) = some (.type "function"))
    (lfBadName : K.lookup f_BadName = some ⟨oc_BadName, od_BadName, .func (PySem.W.fnX "__init__" "BadName.__init__" (C8.fnArgs (sIniAt 8)) (C8.fnBody (sIniAt 8)) (C8.fnScope (sIniAt 8)) [(("__class__" : Str), cc_BadName)] .none kV_BadName doc_BadName pm_BadName an_BadName (.ref cda_BadName) ct_BadName), osl_BadName⟩)
    (cdBadName : PySem.W.codeIn K (.ref cda_BadName) "BadName.__init__" = true)
    (lcBadName : K.lookup cda_BadName = some ⟨ccl_BadName, cdd_BadName, .fields vs_BadName, ccs_BadName⟩)
    (fiBadName : vs_BadName[2]? = some (.str file_BadName tf_BadName))
    (fqBadName : ((PySem.Challenge.pw_gapwise_k01_points.main.file : Str) == file_BadName) = true)
    (ceBadName : K.lookup cc_BadName = some ⟨cl_BadName, cld_BadName, .cell (some (.ref C_BadName)), csl_BadName⟩)
    (gaBadName : PySem.W.findIn K (.ref C_BadName) "__getattribute__" = some (some (.builtin "BaseException.__getattribute__")))
    (ggBadName : PySem.W.findIn K (.ref C_BadName) "__getattr__" = some none)
    (hdBadName : PySem.W.hasDictIn K C_BadName = true)
    (nocalledBadName : PySem.W.findIn K (.ref C_BadName) "called" = some none)
    (nonameBadName : PySem.W.findIn K (.ref C_BadName) "name" = some none)
    (gUnknownName : PySem.W.nsIn K mainGlobals "UnknownName" = some (some (.ref C_UnknownName)))
    (xUnknownName : K.lookup C_UnknownName = some (excClassObj nm_UnknownName q_UnknownName C_UnknownName N_UnknownName bs_UnknownName [.ref CN, .type "LookupError", .type "Exception", .type "BaseException", .type "object"] true sn_UnknownName sub_UnknownName ab_UnknownName col_UnknownName dd_UnknownName ka_UnknownName kb_UnknownName kc_UnknownName kd_UnknownName ke_UnknownName "LookupError.__new__"))
    (saUnknownName : PySem.W.findIn K (.ref C_UnknownName) "__setattr__" = some (some (.builtin "object.__setattr__")))
    (exUnknownName : PySem.W.subIn K (.ref C_UnknownName) (.type "BaseException") = some true)
    (tyUnknownName : PySem.W.typeIn K (.ref C_UnknownName) = some (.type "type"))
    (kpUnknownName : PySem.W.keepIn K (.ref C_UnknownName) = true)
    (suUnknownName : PySem.W.ks_superIn K C_UnknownName C_UnknownName "__init__" = some (some (.builtin "LookupError.__init__")))
    (sbUnknownName : PySem.W.subIn K (.ref C_UnknownName) (.type "LookupError") = some true)
    (owUnknownName : PySem.W.mroIn K C_UnknownName (.ref C_UnknownName) = some true)
    (inUnknownName : PySem.W.findIn K (.ref C_UnknownName) "__init__" = some (some (.ref f_UnknownName)))
    (tiUnknownName : PySem.W.typeIn K (.ref f_UnknownName) = some (.type "function"))
    (lfUnknownName : K.lookup f_UnknownName = some ⟨oc_UnknownName, od_UnknownName, .func (PySem.W.fnX "__init__" "UnknownName.__init__" (C8.fnArgs (sIniAt 12)) (C8.fnBody (sIniAt 12)) (C8.fnScope (sIniAt 12)) [(("__class__" : Str), cc_UnknownName)] .none kV_UnknownName doc_UnknownName pm_UnknownName an_UnknownName (.ref cda_UnknownName) ct_UnknownName), osl_UnknownName⟩)
    (cdUnknownName : PySem.W.codeIn K (.ref cda_UnknownName) "UnknownName.__init__" = true)
    (lcUnknownName : K.lookup cda_UnknownName = some ⟨ccl_UnknownName, cdd_UnknownName, .fields vs_UnknownName, ccs_UnknownName⟩)
    (fiUnknownName : vs_UnknownName[2]? = some (.str file_UnknownName tf_UnknownName))
    (fqUnknownName : ((PySem.Challenge.pw_gapwise_k01_points.main.file : Str) == file_UnknownName) = true)
    (ceUnknownName : K.lookup cc_UnknownName = some ⟨cl_UnknownName, cld_UnknownName, .cell (some (.ref C_UnknownName)), csl_UnknownName⟩)
    (gaUnknownName : PySem.W.findIn K (.ref C_UnknownName) "__getattribute__" = some (some (.builtin "BaseException.__getattribute__")))
    (ggUnknownName : PySem.W.findIn K (.ref C_UnknownName) "__getattr__" = some none)
    (hdUnknownName : PySem.W.hasDictIn K C_UnknownName = true)
    (nocalledUnknownName : PySem.W.findIn K (.ref C_UnknownName) "called" = some none)
    (nonameUnknownName : PySem.W.findIn K (.ref C_UnknownName) "name" = some none)
    (gNoMember : PySem.W.nsIn K mainGlobals "NoMember" = some (some (.ref C_NoMember)))
    (xNoMember : K.lookup C_NoMember = some (excClassObj nm_NoMember q_NoMember C_NoMember N_NoMember bs_NoMember [.ref CN, .type "LookupError", .type "Exception", .type "BaseException", .type "object"] true sn_NoMember sub_NoMember ab_NoMember col_NoMember dd_NoMember ka_NoMember kb_NoMember kc_NoMember kd_NoMember ke_NoMember "LookupError.__new__"))
    (saNoMember : PySem.W.findIn K (.ref C_NoMember) "__setattr__" = some (some (.builtin "object.__setattr__")))
    (exNoMember : PySem.W.subIn K (.ref C_NoMember) (.type "BaseException") = some true)
    (tyNoMember : PySem.W.typeIn K (.ref C_NoMember) = some (.type "type"))
    (kpNoMember : PySem.W.keepIn K (.ref C_NoMember) = true)
    (suNoMember : PySem.W.ks_superIn K C_NoMember C_NoMember "__init__" = some (some (.builtin "LookupError.__init__")))
    (sbNoMember : PySem.W.subIn K (.ref C_NoMember) (.type "LookupError") = some true)
    (owNoMember : PySem.W.mroIn K C_NoMember (.ref C_NoMember) = some true)
    (inNoMember : PySem.W.findIn K (.ref C_NoMember) "__init__" = some (some (.ref f_NoMember)))
    (tiNoMember : PySem.W.typeIn K (.ref f_NoMember) = some (.type "function"))
    (lfNoMember : K.lookup f_NoMember = some ⟨oc_NoMember, od_NoMember, .func (PySem.W.fnX "__init__" "NoMember.__init__" (C8.fnArgs (sIniAt 10)) (C8.fnBody (sIniAt 10)) (C8.fnScope (sIniAt 10)) [(("__class__" : Str), cc_NoMember)] .none kV_NoMember doc_NoMember pm_NoMember an_NoMember (.ref cda_NoMember) ct_NoMember), osl_NoMember⟩)
    (cdNoMember : PySem.W.codeIn K (.ref cda_NoMember) "NoMember.__init__" = true)
    (lcNoMember : K.lookup cda_NoMember = some ⟨ccl_NoMember, cdd_NoMember, .fields vs_NoMember, ccs_NoMember⟩)
    (fiNoMember : vs_NoMember[2]? = some (.str file_NoMember tf_NoMember))
    (fqNoMember : ((PySem.Challenge.pw_gapwise_k01_points.main.file : Str) == file_NoMember) = true)
    (ceNoMember : K.lookup cc_NoMember = some ⟨cl_NoMember, cld_NoMember, .cell (some (.ref C_NoMember)), csl_NoMember⟩)
    (gaNoMember : PySem.W.findIn K (.ref C_NoMember) "__getattribute__" = some (some (.builtin "BaseException.__getattribute__")))
    (ggNoMember : PySem.W.findIn K (.ref C_NoMember) "__getattr__" = some none)
    (hdNoMember : PySem.W.hasDictIn K C_NoMember = true)
    (nocalledNoMember : PySem.W.findIn K (.ref C_NoMember) "called" = some none)
    (novalueNoMember : PySem.W.findIn K (.ref C_NoMember) "value" = some none)
    (gNoPoint : PySem.W.nsIn K mainGlobals "NoPoint" = some (some (.ref C_NoPoint)))
    (xNoPoint : K.lookup C_NoPoint = some (excClassObj nm_NoPoint q_NoPoint C_NoPoint N_NoPoint bs_NoPoint [.ref CN, .type "LookupError", .type "Exception", .type "BaseException", .type "object"] true sn_NoPoint sub_NoPoint ab_NoPoint col_NoPoint dd_NoPoint ka_NoPoint kb_NoPoint kc_NoPoint kd_NoPoint ke_NoPoint "LookupError.__new__"))
    (saNoPoint : PySem.W.findIn K (.ref C_NoPoint) "__setattr__" = some (some (.builtin "object.__setattr__")))
    (exNoPoint : PySem.W.subIn K (.ref C_NoPoint) (.type "BaseException") = some true)
    (tyNoPoint : PySem.W.typeIn K (.ref C_NoPoint) = some (.type "type"))
    (kpNoPoint : PySem.W.keepIn K (.ref C_NoPoint) = true)
    (suNoPoint : PySem.W.ks_superIn K C_NoPoint C_NoPoint "__init__" = some (some (.builtin "LookupError.__init__")))
    (sbNoPoint : PySem.W.subIn K (.ref C_NoPoint) (.type "LookupError") = some true)
    (owNoPoint : PySem.W.mroIn K C_NoPoint (.ref C_NoPoint) = some true)
    (inNoPoint : PySem.W.findIn K (.ref C_NoPoint) "__init__" = some (some (.ref f_NoPoint)))
    (tiNoPoint : PySem.W.typeIn K (.ref f_NoPoint) = some (.type "function"))
    (lfNoPoint : K.lookup f_NoPoint = some ⟨oc_NoPoint, od_NoPoint, .func (PySem.W.fnX "__init__" "NoPoint.__init__" (C8.fnArgs (sIniAt 9)) (C8.fnBody (sIniAt 9)) (C8.fnScope (sIniAt 9)) [(("__class__" : Str), cc_NoPoint)] .none kV_NoPoint doc_NoPoint pm_NoPoint an_NoPoint (.ref cda_NoPoint) ct_NoPoint), osl_NoPoint⟩)
    (cdNoPoint : PySem.W.codeIn K (.ref cda_NoPoint) "NoPoint.__init__" = true)
    (lcNoPoint : K.lookup cda_NoPoint = some ⟨ccl_NoPoint, cdd_NoPoint, .fields vs_NoPoint, ccs_NoPoint⟩)
    (fiNoPoint : vs_NoPoint[2]? = some (.str file_NoPoint tf_NoPoint))
    (fqNoPoint : ((PySem.Challenge.pw_gapwise_k01_points.main.file : Str) == file_NoPoint) = true)
    (ceNoPoint : K.lookup cc_NoPoint = some ⟨cl_NoPoint, cld_NoPoint, .cell (some (.ref C_NoPoint)), csl_NoPoint⟩)
    (gaNoPoint : PySem.W.findIn K (.ref C_NoPoint) "__getattribute__" = some (some (.builtin "BaseException.__getattribute__")))
    (ggNoPoint : PySem.W.findIn K (.ref C_NoPoint) "__getattr__" = some none)
    (hdNoPoint : PySem.W.hasDictIn K C_NoPoint = true)
    (nocalledNoPoint : PySem.W.findIn K (.ref C_NoPoint) "called" = some none)
    (nopointNoPoint : PySem.W.findIn K (.ref C_NoPoint) "point" = some none)
    (gNoDeed : PySem.W.nsIn K mainGlobals "NoDeed" = some (some (.ref C_NoDeed)))
    (xNoDeed : K.lookup C_NoDeed = some (excClassObj nm_NoDeed q_NoDeed C_NoDeed N_NoDeed bs_NoDeed [.ref CN, .type "LookupError", .type "Exception", .type "BaseException", .type "object"] true sn_NoDeed sub_NoDeed ab_NoDeed col_NoDeed dd_NoDeed ka_NoDeed kb_NoDeed kc_NoDeed kd_NoDeed ke_NoDeed "LookupError.__new__"))
    (saNoDeed : PySem.W.findIn K (.ref C_NoDeed) "__setattr__" = some (some (.builtin "object.__setattr__")))
    (exNoDeed : PySem.W.subIn K (.ref C_NoDeed) (.type "BaseException") = some true)
    (tyNoDeed : PySem.W.typeIn K (.ref C_NoDeed) = some (.type "type"))
    (kpNoDeed : PySem.W.keepIn K (.ref C_NoDeed) = true)
    (suNoDeed : PySem.W.ks_superIn K C_NoDeed C_NoDeed "__init__" = some (some (.builtin "LookupError.__init__")))
    (sbNoDeed : PySem.W.subIn K (.ref C_NoDeed) (.type "LookupError") = some true)
    (owNoDeed : PySem.W.mroIn K C_NoDeed (.ref C_NoDeed) = some true)
    (inNoDeed : PySem.W.findIn K (.ref C_NoDeed) "__init__" = some (some (.ref f_NoDeed)))
    (tiNoDeed : PySem.W.typeIn K (.ref f_NoDeed) = some (.type "function"))
    (lfNoDeed : K.lookup f_NoDeed = some ⟨oc_NoDeed, od_NoDeed, .func (PySem.W.fnX "__init__" "NoDeed.__init__" (C8.fnArgs (sIniAt 11)) (C8.fnBody (sIniAt 11)) (C8.fnScope (sIniAt 11)) [(("__class__" : Str), cc_NoDeed)] .none kV_NoDeed doc_NoDeed pm_NoDeed an_NoDeed (.ref cda_NoDeed) ct_NoDeed), osl_NoDeed⟩)
    (cdNoDeed : PySem.W.codeIn K (.ref cda_NoDeed) "NoDeed.__init__" = true)
    (lcNoDeed : K.lookup cda_NoDeed = some ⟨ccl_NoDeed, cdd_NoDeed, .fields vs_NoDeed, ccs_NoDeed⟩)
    (fiNoDeed : vs_NoDeed[2]? = some (.str file_NoDeed tf_NoDeed))
    (fqNoDeed : ((PySem.Challenge.pw_gapwise_k01_points.main.file : Str) == file_NoDeed) = true)
    (ceNoDeed : K.lookup cc_NoDeed = some ⟨cl_NoDeed, cld_NoDeed, .cell (some (.ref C_NoDeed)), csl_NoDeed⟩)
    (gaNoDeed : PySem.W.findIn K (.ref C_NoDeed) "__getattribute__" = some (some (.builtin "BaseException.__getattribute__")))
    (ggNoDeed : PySem.W.findIn K (.ref C_NoDeed) "__getattr__" = some none)
    (hdNoDeed : PySem.W.hasDictIn K C_NoDeed = true)
    (nocalledNoDeed : PySem.W.findIn K (.ref C_NoDeed) "called" = some none)
    (nonumberNoDeed : PySem.W.findIn K (.ref C_NoDeed) "number" = some none)
    (opq : PySem.W.nsIn K cStatics "thirdparty.any" = some none)
    (zsup : PySem.W.nsIn K mainGlobals "super" = some none)
    (eOwn : PySem.W.exmOne K (.ref C_BadPoint) (.ref C_BadPoint) = some true)
    (eLine : PySem.W.exmOne K (.ref C_BadPoint) (.ref CL) = some true) :
    ∃ fd : FuncData, (∀ (s : Shared) (v : Value), BindsTo s fd ⟨[v], []⟩ [("script", v)]) ∧ ∀ base : Heap, K.In base → base.Ns mainGlobals mg → FnG PySem.Challenge.rw_gapwise_k01_points.prog w K mg base 10 fa fd ["script"] (sp_law K) := by
  have e := hfa.symm.trans (PySem.W.mg_of X G a13)
  cases e
  have F0 := fun_mk (st := s_copied) l0 c0 k0
  have b0 := F0.binds (ps := P_copied) fun _ _ _ _ _ _ us hl => match us, hl with | [_], _ => rfl
  have F1 := fun_mk (st := s_parts_in) l1 c1 k1
  have b1 := F1.binds (ps := P_parts_in) fun _ _ _ _ _ _ us hl => match us, hl with | [_], _ => rfl
  have F2 := fun_mk (st := s_put_together) l2 c2 k2
  have b2 := F2.binds (ps := P_put_together) fun _ _ _ _ _ _ us hl => match us, hl with | [_, _], _ => rfl
  have F3 := fun_mk (st := s_make_point) l3 c3 k3
  have b3 := F3.binds (ps := P_make_point) fun _ _ _ _ _ _ us hl => match us, hl with | [_, _], _ => rfl
  have F4 := fun_mk (st := s_is_before) l4 c4 k4
  have b4 := F4.binds (ps := P_is_before) fun _ _ _ _ _ _ us hl => match us, hl with | [_, _], _ => rfl
  have F5 := fun_mk (st := s__law_open_cells) l5 c5 k5
  have b5 := F5.binds (ps := P__law_open_cells) fun _ _ _ _ _ _ us hl => match us, hl with | [_], _ => rfl
  have F6 := fun_mk (st := s__law_pick) l6 c6 k6
  have b6 := F6.binds (ps := P__law_pick) fun _ _ _ _ _ _ us hl => match us, hl with | [_, _], _ => rfl
  have F7 := fun_mk (st := s__law_point) l7 c7 k7
  have b7 := F7.binds (ps := P__law_point) fun _ _ _ _ _ _ us hl => match us, hl with | [_, _], _ => rfl
  have F8 := fun_mk (st := s__law_less) l8 c8 k8
  have b8 := F8.binds (ps := P__law_less) fun _ _ _ _ _ _ us hl => match us, hl with | [_, _], _ => rfl
  have F9 := fun_mk (st := s__law_whole) l9 c9 k9
  have b9 := F9.binds (ps := P__law_whole) fun _ _ _ _ _ _ us hl => match us, hl with | [_], _ => rfl
  have F10 := fun_mk (st := s__law_refused) l10 c10 k10
  have b10 := F10.binds (ps := P__law_refused) fun _ _ _ _ _ _ us hl => match us, hl with | [_], _ => rfl
  have F11 := fun_mk (st := s__law_is_pair) l11 c11 k11
  have b11 := F11.binds (ps := P__law_is_pair) fun _ _ _ _ _ _ us hl => match us, hl with | [_], _ => rfl
  have F12 := fun_mk (st := s__law_copies_right) l12 c12 k12
  have b12 := F12.binds (ps := P__law_copies_right) fun _ _ _ _ _ _ us hl => match us, hl with | [], _ => rfl
  have F13 := fun_mk (st := s_law) l13 c13 k13
  have b13 := F13.binds (ps := P_law) fun _ _ _ _ _ _ us hl => match us, hl with | [_], _ => rfl
  let W : Ds K mg := {
    T := { b_abs := PySem.W.mg_none_of X G z_abs, b_int := PySem.W.mg_none_of X G z_int, b_len := PySem.W.mg_none_of X G z_len, b_range := PySem.W.mg_none_of X G z_range, b_all := PySem.W.mg_none_of X G z_all, b_list := PySem.W.mg_none_of X G z_list, b_tuple := PySem.W.mg_none_of X G z_tuple, b_isinstance := PySem.W.mg_none_of X G z_isinstance, b_repr := PySem.W.mg_none_of X G z_repr, b_bool := PySem.W.mg_none_of X G z_bool, b_dict := PySem.W.mg_none_of X G z_dict, i_gcd := PySem.W.mg_of X G i_gcd },
    f_copied := f0, fd_copied := _, D_copied := ⟨F0, PySem.W.mg_of X G a0, b0⟩,
    f_parts_in := f1, fd_parts_in := _, D_parts_in := ⟨F1, PySem.W.mg_of X G a1, b1⟩,
    f_put_together := f2, fd_put_together := _, D_put_together := ⟨F2, PySem.W.mg_of X G a2, b2⟩,
    f_make_point := f3, fd_make_point := _, D_make_point := ⟨F3, PySem.W.mg_of X G a3, b3⟩,
    f_is_before := f4, fd_is_before := _, D_is_before := ⟨F4, PySem.W.mg_of X G a4, b4⟩,
    f__law_open_cells := f5, fd__law_open_cells := _, D__law_open_cells := ⟨F5, PySem.W.mg_of X G a5, b5⟩,
    f__law_pick := f6, fd__law_pick := _, D__law_pick := ⟨F6, PySem.W.mg_of X G a6, b6⟩,
    f__law_point := f7, fd__law_point := _, D__law_point := ⟨F7, PySem.W.mg_of X G a7, b7⟩,
    f__law_less := f8, fd__law_less := _, D__law_less := ⟨F8, PySem.W.mg_of X G a8, b8⟩,
    f__law_whole := f9, fd__law_whole := _, D__law_whole := ⟨F9, PySem.W.mg_of X G a9, b9⟩,
    f__law_refused := f10, fd__law_refused := _, D__law_refused := ⟨F10, PySem.W.mg_of X G a10, b10⟩,
    f__law_is_pair := f11, fd__law_is_pair := _, D__law_is_pair := ⟨F11, PySem.W.mg_of X G a11, b11⟩,
    f__law_copies_right := f12, fd__law_copies_right := _, D__law_copies_right := ⟨F12, PySem.W.mg_of X G a12, b12⟩,
    f_law := fa, fd_law := _, D_law := ⟨F13, PySem.W.mg_of X G a13, b13⟩ }
  have M_BadPoint : Ini PySem.Challenge.rw_gapwise_k01_points.prog K C_BadPoint f_BadPoint cc_BadPoint (iniF sIni "BadPoint.__init__" cc_BadPoint cda_BadPoint) _ "self" := ⟨⟨_, _, _, _, _, rfl⟩, rfl, cdBadPoint, ⟨⟨_, _, _, lfBadPoint⟩, ⟨_, rfl, rfl⟩, ⟨_, _, _, _, _, _, lcBadPoint, fiBadPoint, fqBadPoint⟩, ⟨_, _, _, ceBadPoint⟩, topSuper⟩⟩
  have b_BadPoint := bX_BadPoint (K := K) f_BadPoint cc_BadPoint cda_BadPoint kV_BadPoint doc_BadPoint pm_BadPoint ct_BadPoint an_BadPoint
  have X_BadPoint : XfC K C_BadPoint := ⟨gaBadPoint, ggBadPoint, exBadPoint, hdBadPoint⟩
  have S_BadPoint : SupC K C_BadPoint _ _ := ⟨suBadPoint, sbBadPoint, owBadPoint, opq⟩
  have R_BadPoint := (ErrC.mk (PySem.W.mg_of X G gBadPoint) ⟨⟨_, _, _, _, _, _, _, _, _, _, _, _, _, _, _, xBadPoint, rfl⟩, saBadPoint, exBadPoint, tyBadPoint, kpBadPoint⟩ S_BadPoint M_BadPoint inBadPoint tiBadPoint X_BadPoint (noFields nocalledBadPoint nopBadPoint noqBadPoint) (PySem.W.mg_none_of X G zsup) : ErrC PySem.Challenge.rw_gapwise_k01_points.prog K mg "BadPoint" sIni "BadPoint.__init__" C_BadPoint f_BadPoint cc_BadPoint cda_BadPoint _ ["called", "p", "q"])
  have M_BadName : Ini PySem.Challenge.rw_gapwise_k01_points.prog K C_BadName f_BadName cc_BadName (iniF (sIniAt 8) "BadName.__init__" cc_BadName cda_BadName) _ "self" := ⟨⟨_, _, _, _, _, rfl⟩, rfl, cdBadName, ⟨⟨_, _, _, lfBadName⟩, ⟨_, rfl, rfl⟩, ⟨_, _, _, _, _, _, lcBadName, fiBadName, fqBadName⟩, ⟨_, _, _, ceBadName⟩, topSuper⟩⟩
  have b_BadName := bX_BadName (K := K) f_BadName cc_BadName cda_BadName kV_BadName doc_BadName pm_BadName ct_BadName an_BadName
  have X_BadName : XfC K C_BadName := ⟨gaBadName, ggBadName, exBadName, hdBadName⟩
  have S_BadName : SupC K C_BadName _ _ := ⟨suBadName, sbBadName, owBadName, opq⟩
  have R_BadName := (ErrV.mk (PySem.W.mg_of X G gBadName) ⟨⟨_, _, _, _, _, _, _, _, _, _, _, _, _, _, _, xBadName, rfl⟩, saBadName, kpBadName⟩ S_BadName M_BadName inBadName tiBadName X_BadName nocalledBadName nonameBadName (PySem.W.mg_none_of X G zsup) : ErrV PySem.Challenge.rw_gapwise_k01_points.prog K mg vaTail "ValueError.__new__" "ValueError" "ValueError.__init__" "BadName" (sIniAt 8) "BadName.__init__" C_BadName f_BadName cc_BadName cda_BadName _ "name")
  have M_UnknownName : Ini PySem.Challenge.rw_gapwise_k01_points.prog K C_UnknownName f_UnknownName cc_UnknownName (iniF (sIniAt 12) "UnknownName.__init__" cc_UnknownName cda_UnknownName) _ "self" := ⟨⟨_, _, _, _, _, rfl⟩, rfl, cdUnknownName, ⟨⟨_, _, _, lfUnknownName⟩, ⟨_, rfl, rfl⟩, ⟨_, _, _, _, _, _, lcUnknownName, fiUnknownName, fqUnknownName⟩, ⟨_, _, _, ceUnknownName⟩, topSuper⟩⟩
  have b_UnknownName := bX_UnknownName (K := K) f_UnknownName cc_UnknownName cda_UnknownName kV_UnknownName doc_UnknownName pm_UnknownName ct_UnknownName an_UnknownName
  have X_UnknownName : XfC K C_UnknownName := ⟨gaUnknownName, ggUnknownName, exUnknownName, hdUnknownName⟩
  have S_UnknownName : SupC K C_UnknownName _ _ := ⟨suUnknownName, sbUnknownName, owUnknownName, opq⟩
  have R_UnknownName := (ErrV.mk (PySem.W.mg_of X G gUnknownName) ⟨⟨_, _, _, _, _, _, _, _, _, _, _, _, _, _, _, xUnknownName, rfl⟩, saUnknownName, kpUnknownName⟩ S_UnknownName M_UnknownName inUnknownName tiUnknownName X_UnknownName nocalledUnknownName nonameUnknownName (PySem.W.mg_none_of X G zsup) : ErrV PySem.Challenge.rw_gapwise_k01_points.prog K mg leTail "LookupError.__new__" "LookupError" "LookupError.__init__" "UnknownName" (sIniAt 12) "UnknownName.__init__" C_UnknownName f_UnknownName cc_UnknownName cda_UnknownName _ "name")
  have M_NoMember : Ini PySem.Challenge.rw_gapwise_k01_points.prog K C_NoMember f_NoMember cc_NoMember (iniF (sIniAt 10) "NoMember.__init__" cc_NoMember cda_NoMember) _ "self" := ⟨⟨_, _, _, _, _, rfl⟩, rfl, cdNoMember, ⟨⟨_, _, _, lfNoMember⟩, ⟨_, rfl, rfl⟩, ⟨_, _, _, _, _, _, lcNoMember, fiNoMember, fqNoMember⟩, ⟨_, _, _, ceNoMember⟩, topSuper⟩⟩
  have b_NoMember := bX_NoMember (K := K) f_NoMember cc_NoMember cda_NoMember kV_NoMember doc_NoMember pm_NoMember ct_NoMember an_NoMember
  have X_NoMember : XfC K C_NoMember := ⟨gaNoMember, ggNoMember, exNoMember, hdNoMember⟩
  have S_NoMember : SupC K C_NoMember _ _ := ⟨suNoMember, sbNoMember, owNoMember, opq⟩
  have R_NoMember := (ErrV.mk (PySem.W.mg_of X G gNoMember) ⟨⟨_, _, _, _, _, _, _, _, _, _, _, _, _, _, _, xNoMember, rfl⟩, saNoMember, kpNoMember⟩ S_NoMember M_NoMember inNoMember tiNoMember X_NoMember nocalledNoMember novalueNoMember (PySem.W.mg_none_of X G zsup) : ErrV PySem.Challenge.rw_gapwise_k01_points.prog K mg leTail "LookupError.__new__" "LookupError" "LookupError.__init__" "NoMember" (sIniAt 10) "NoMember.__init__" C_NoMember f_NoMember cc_NoMember cda_NoMember _ "value")
  have M_NoPoint : Ini PySem.Challenge.rw_gapwise_k01_points.prog K C_NoPoint f_NoPoint cc_NoPoint (iniF (sIniAt 9) "NoPoint.__init__" cc_NoPoint cda_NoPoint) _ "self" := ⟨⟨_, _, _, _, _, rfl⟩, rfl, cdNoPoint, ⟨⟨_, _, _, lfNoPoint⟩, ⟨_, rfl, rfl⟩, ⟨_, _, _, _, _, _, lcNoPoint, fiNoPoint, fqNoPoint⟩, ⟨_, _, _, ceNoPoint⟩, topSuper⟩⟩
  have b_NoPoint := bX_NoPoint (K := K) f_NoPoint cc_NoPoint cda_NoPoint kV_NoPoint doc_NoPoint pm_NoPoint ct_NoPoint an_NoPoint
  have X_NoPoint : XfC K C_NoPoint := ⟨gaNoPoint, ggNoPoint, exNoPoint, hdNoPoint⟩
  have S_NoPoint : SupC K C_NoPoint _ _ := ⟨suNoPoint, sbNoPoint, owNoPoint, opq⟩
  have R_NoPoint := (ErrV.mk (PySem.W.mg_of X G gNoPoint) ⟨⟨_, _, _, _, _, _, _, _, _, _, _, _, _, _, _, xNoPoint, rfl⟩, saNoPoint, kpNoPoint⟩ S_NoPoint M_NoPoint inNoPoint tiNoPoint X_NoPoint nocalledNoPoint nopointNoPoint (PySem.W.mg_none_of X G zsup) : ErrV PySem.Challenge.rw_gapwise_k01_points.prog K mg leTail "LookupError.__new__" "LookupError" "LookupError.__init__" "NoPoint" (sIniAt 9) "NoPoint.__init__" C_NoPoint f_NoPoint cc_NoPoint cda_NoPoint _ "point")
  have M_NoDeed : Ini PySem.Challenge.rw_gapwise_k01_points.prog K C_NoDeed f_NoDeed cc_NoDeed (iniF (sIniAt 11) "NoDeed.__init__" cc_NoDeed cda_NoDeed) _ "self" := ⟨⟨_, _, _, _, _, rfl⟩, rfl, cdNoDeed, ⟨⟨_, _, _, lfNoDeed⟩, ⟨_, rfl, rfl⟩, ⟨_, _, _, _, _, _, lcNoDeed, fiNoDeed, fqNoDeed⟩, ⟨_, _, _, ceNoDeed⟩, topSuper⟩⟩
  have b_NoDeed := bX_NoDeed (K := K) f_NoDeed cc_NoDeed cda_NoDeed kV_NoDeed doc_NoDeed pm_NoDeed ct_NoDeed an_NoDeed
  have X_NoDeed : XfC K C_NoDeed := ⟨gaNoDeed, ggNoDeed, exNoDeed, hdNoDeed⟩
  have S_NoDeed : SupC K C_NoDeed _ _ := ⟨suNoDeed, sbNoDeed, owNoDeed, opq⟩
  have R_NoDeed := (ErrV.mk (PySem.W.mg_of X G gNoDeed) ⟨⟨_, _, _, _, _, _, _, _, _, _, _, _, _, _, _, xNoDeed, rfl⟩, saNoDeed, kpNoDeed⟩ S_NoDeed M_NoDeed inNoDeed tiNoDeed X_NoDeed nocalledNoDeed nonumberNoDeed (PySem.W.mg_none_of X G zsup) : ErrV PySem.Challenge.rw_gapwise_k01_points.prog K mg leTail "LookupError.__new__" "LookupError" "LookupError.__init__" "NoDeed" (sIniAt 11) "NoDeed.__init__" C_NoDeed f_NoDeed cc_NoDeed cda_NoDeed _ "number")
  have V5 : Five PySem.Challenge.rw_gapwise_k01_points.prog K mg (fun n => match n with | 0 => C_BadName | 1 => C_UnknownName | 2 => C_NoMember | 3 => C_NoPoint | _ => C_NoDeed) (fun n => match n with | 0 => f_BadName | 1 => f_UnknownName | 2 => f_NoMember | 3 => f_NoPoint | _ => f_NoDeed) (fun n => match n with | 0 => cc_BadName | 1 => cc_UnknownName | 2 => cc_NoMember | 3 => cc_NoPoint | _ => cc_NoDeed) (fun n => match n with | 0 => cda_BadName | 1 => cda_UnknownName | 2 => cda_NoMember | 3 => cda_NoPoint | _ => cda_NoDeed) (fun n => match n with | 0 => _ | 1 => _ | 2 => _ | 3 => _ | _ => _) := ⟨R_BadName, R_UnknownName, R_NoMember, R_NoPoint, R_NoDeed, b_BadName, b_UnknownName, b_NoMember, b_NoPoint, b_NoDeed⟩
  exact ⟨_, fun s v => .of_eq rfl, fun base _ _ => ok_law W R_BadPoint b_BadPoint ⟨PySem.W.mg_of X G gLine, eOwn, eLine⟩ (ok_copies W V5)⟩

end G
open PySem PySem.W PyProof.Rows
set_option maxHeartbeats 0 in
theorem PySem.Challenge.cw_gapwise_k01_points_holds : PySem.Challenge.rw_gapwise_k01_points.Holds := by
  w_on; o_law; k_head; (case hw => w_witness2)
  k_fill
  refine G.walkG (l := PySem.Challenge.rw_gapwise_k01_points) (n := 63) (k := 10) (x := "script") (sp := fun K => G.sp_law K) rfl (by decide) rfl ⟨rfl, by decide, by decide⟩ (fun w h Y => PySem.W.kIn_of Y) ?F (fun _ _ a ns hl hS => ⟨a, ns, rfl, hS, hl, fun _ => rfl⟩)
  case F =>
    intro w mg fa h KX GX hmg
    refine' G.all_mk KX GX hmg ?a0 ?l0 ?c0 ?k0 ?a1 ?l1 ?c1 ?k1 ?a2 ?l2 ?c2 ?k2 ?a3 ?l3 ?c3 ?k3 ?a4 ?l4 ?c4 ?k4 ?a5 ?l5 ?c5 ?k5 ?a6 ?l6 ?c6 ?k6 ?a7 ?l7 ?c7 ?k7 ?a8 ?l8 ?c8 ?k8 ?a9 ?l9 ?c9 ?k9 ?a10 ?l10 ?c10 ?k10 ?a11 ?l11 ?c11 ?k11 ?a12 ?l12 ?c12 ?k12 ?a13 ?l13 ?c13 ?k13 ?z_abs ?z_int ?z_len ?z_range ?z_all ?z_list ?z_tuple ?z_isinstance ?z_repr ?z_bool ?z_dict ?i_gcd ?gLine ?gBadPoint ?xBadPoint ?saBadPoint ?exBadPoint ?tyBadPoint ?kpBadPoint ?suBadPoint ?sbBadPoint ?owBadPoint ?inBadPoint ?tiBadPoint ?lfBadPoint ?cdBadPoint ?lcBadPoint ?fiBadPoint ?fqBadPoint ?ceBadPoint ?gaBadPoint ?ggBadPoint ?hdBadPoint ?nocalledBadPoint ?nopBadPoint ?noqBadPoint ?gBadName ?xBadName ?saBadName ?exBadName ?tyBadName ?kpBadName ?suBadName ?sbBadName ?owBadName ?inBadName ?tiBadName ?lfBadName ?cdBadName ?lcBadName ?fiBadName ?fqBadName ?ceBadName ?gaBadName ?ggBadName ?hdBadName ?nocalledBadName ?nonameBadName ?gUnknownName ?xUnknownName ?saUnknownName ?exUnknownName ?tyUnknownName ?kpUnknownName ?suUnknownName ?sbUnknownName ?owUnknownName ?inUnknownName ?tiUnknownName ?lfUnknownName ?cdUnknownName ?lcUnknownName ?fiUnknownName ?fqUnknownName ?ceUnknownName ?gaUnknownName ?ggUnknownName ?hdUnknownName ?nocalledUnknownName ?nonameUnknownName ?gNoMember ?xNoMember ?saNoMember ?exNoMember ?tyNoMember ?kpNoMember ?suNoMember ?sbNoMember ?owNoMember ?inNoMember ?tiNoMember ?lfNoMember ?cdNoMember ?lcNoMember ?fiNoMember ?fqNoMember ?ceNoMember ?gaNoMember ?ggNoMember ?hdNoMember ?nocalledNoMember ?novalueNoMember ?gNoPoint ?xNoPoint ?saNoPoint ?exNoPoint ?tyNoPoint ?kpNoPoint ?suNoPoint ?sbNoPoint ?owNoPoint ?inNoPoint ?tiNoPoint ?lfNoPoint ?cdNoPoint ?lcNoPoint ?fiNoPoint ?fqNoPoint ?ceNoPoint ?gaNoPoint ?ggNoPoint ?hdNoPoint ?nocalledNoPoint ?nopointNoPoint ?gNoDeed ?xNoDeed ?saNoDeed ?exNoDeed ?tyNoDeed ?kpNoDeed ?suNoDeed ?sbNoDeed ?owNoDeed ?inNoDeed ?tiNoDeed ?lfNoDeed ?cdNoDeed ?lcNoDeed ?fiNoDeed ?fqNoDeed ?ceNoDeed ?gaNoDeed ?ggNoDeed ?hdNoDeed ?nocalledNoDeed ?nonumberNoDeed ?opq ?zsup ?eOwn ?eLine
    (case a0 => k_is); (case l0 => k_is); (case c0 => k_is); (case k0 => k_is); (case a1 => k_is); (case l1 => k_is); (case c1 => k_is); (case k1 => k_is); (case a2 => k_is); (case l2 => k_is); (case c2 => k_is); (case k2 => k_is); (case a3 => k_is); (case l3 => k_is); (case c3 => k_is); (case k3 => k_is); (case a4 => k_is); (case l4 => k_is); (case c4 => k_is); (case k4 => k_is); (case a5 => k_is); (case l5 => k_is); (case c5 => k_is); (case k5 => k_is); (case a6 => k_is); (case l6 => k_is); (case c6 => k_is); (case k6 => k_is); (case a7 => k_is); (case l7 => k_is); (case c7 => k_is); (case k7 => k_is); (case a8 => k_is); (case l8 => k_is); (case c8 => k_is); (case k8 => k_is); (case a9 => k_is); (case l9 => k_is); (case c9 => k_is); (case k9 => k_is); (case a10 => k_is); (case l10 => k_is); (case c10 => k_is); (case k10 => k_is); (case a11 => k_is); (case l11 => k_is); (case c11 => k_is); (case k11 => k_is); (case a12 => k_is); (case l12 => k_is); (case c12 => k_is); (case k12 => k_is); (case a13 => k_is); (case l13 => k_is); (case c13 => k_is); (case k13 => k_is); (case z_abs => k_is); (case z_int => k_is); (case z_len => k_is); (case z_range => k_is); (case z_all => k_is); (case z_list => k_is); (case z_tuple => k_is); (case z_isinstance => k_is); (case z_repr => k_is); (case z_bool => k_is); (case z_dict => k_is); (case i_gcd => k_is)
    (case gLine => k_is); (case gBadPoint => k_is); (case xBadPoint => k_is); (case saBadPoint => k_is); (case exBadPoint => k_is); (case tyBadPoint => k_is); (case kpBadPoint => k_is); (case suBadPoint => first | rfl | (kernel_rfl) | (with_unfolding_all rfl) | k_is); (case sbBadPoint => k_is); (case owBadPoint => k_is); (case inBadPoint => k_is); (case tiBadPoint => k_is); (case lfBadPoint => k_is); (case cdBadPoint => k_is); (case lcBadPoint => k_is); (case fiBadPoint => first | rfl | k_is | decide +kernel); (case fqBadPoint => first | rfl | k_is | decide +kernel); (case ceBadPoint => k_is); (case gaBadPoint => k_is); (case ggBadPoint => k_is); (case hdBadPoint => first | rfl | k_is | decide +kernel); (case nocalledBadPoint => k_is); (case nopBadPoint => k_is); (case noqBadPoint => k_is); (case gBadName => k_is); (case xBadName => k_is); (case saBadName => k_is); (case exBadName => k_is); (case tyBadName => k_is); (case kpBadName => k_is); (case suBadName => first | rfl | (kernel_rfl) | (with_unfolding_all rfl) | k_is); (case sbBadName => k_is); (case owBadName => k_is); (case inBadName => k_is); (case tiBadName => k_is); (case lfBadName => k_is); (case cdBadName => k_is); (case lcBadName => k_is); (case fiBadName => first | rfl | k_is | decide +kernel); (case fqBadName => first | rfl | k_is | decide +kernel); (case ceBadName => k_is); (case gaBadName => k_is); (case ggBadName => k_is); (case hdBadName => first | rfl | k_is | decide +kernel); (case nocalledBadName => k_is); (case nonameBadName => k_is); (case gUnknownName => k_is); (case xUnknownName => k_is); (case saUnknownName => k_is); (case exUnknownName => k_is); (case tyUnknownName => k_is); (case kpUnknownName => k_is); (case suUnknownName => first | rfl | (kernel_rfl) | (with_unfolding_all rfl) | k_is); (case sbUnknownName => k_is); (case owUnknownName => k_is); (case inUnknownName => k_is); (case tiUnknownName => k_is); (case lfUnknownName => k_is); (case cdUnknownName => k_is); (case lcUnknownName => k_is); (case fiUnknownName => first | rfl | k_is | decide +kernel); (case fqUnknownName => first | rfl | k_is | decide +kernel); (case ceUnknownName => k_is); (case gaUnknownName => k_is); (case ggUnknownName => k_is); (case hdUnknownName => first | rfl | k_is | decide +kernel); (case nocalledUnknownName => k_is); (case nonameUnknownName => k_is); (case gNoMember => k_is); (case xNoMember => k_is); (case saNoMember => k_is); (case exNoMember => k_is); (case tyNoMember => k_is); (case kpNoMember => k_is); (case suNoMember => first | rfl | (kernel_rfl) | (with_unfolding_all rfl) | k_is); (case sbNoMember => k_is); (case owNoMember => k_is); (case inNoMember => k_is); (case tiNoMember => k_is); (case lfNoMember => k_is); (case cdNoMember => k_is); (case lcNoMember => k_is); (case fiNoMember => first | rfl | k_is | decide +kernel); (case fqNoMember => first | rfl | k_is | decide +kernel); (case ceNoMember => k_is); (case gaNoMember => k_is); (case ggNoMember => k_is); (case hdNoMember => first | rfl | k_is | decide +kernel); (case nocalledNoMember => k_is); (case novalueNoMember => k_is); (case gNoPoint => k_is); (case xNoPoint => k_is); (case saNoPoint => k_is); (case exNoPoint => k_is); (case tyNoPoint => k_is); (case kpNoPoint => k_is); (case suNoPoint => first | rfl | (kernel_rfl) | (with_unfolding_all rfl) | k_is); (case sbNoPoint => k_is); (case owNoPoint => k_is); (case inNoPoint => k_is); (case tiNoPoint => k_is); (case lfNoPoint => k_is); (case cdNoPoint => k_is); (case lcNoPoint => k_is); (case fiNoPoint => first | rfl | k_is | decide +kernel); (case fqNoPoint => first | rfl | k_is | decide +kernel); (case ceNoPoint => k_is); (case gaNoPoint => k_is); (case ggNoPoint => k_is); (case hdNoPoint => first | rfl | k_is | decide +kernel); (case nocalledNoPoint => k_is); (case nopointNoPoint => k_is); (case gNoDeed => k_is); (case xNoDeed => k_is); (case saNoDeed => k_is); (case exNoDeed => k_is); (case tyNoDeed => k_is); (case kpNoDeed => k_is); (case suNoDeed => first | rfl | (kernel_rfl) | (with_unfolding_all rfl) | k_is); (case sbNoDeed => k_is); (case owNoDeed => k_is); (case inNoDeed => k_is); (case tiNoDeed => k_is); (case lfNoDeed => k_is); (case cdNoDeed => k_is); (case lcNoDeed => k_is); (case fiNoDeed => first | rfl | k_is | decide +kernel); (case fqNoDeed => first | rfl | k_is | decide +kernel); (case ceNoDeed => k_is); (case gaNoDeed => k_is); (case ggNoDeed => k_is); (case hdNoDeed => first | rfl | k_is | decide +kernel); (case nocalledNoDeed => k_is); (case nonumberNoDeed => k_is); (case opq => k_is); (case zsup => k_is); (case eOwn => first | rfl | (kernel_rfl) | (with_unfolding_all rfl) | k_is); (case eLine => first | rfl | (kernel_rfl) | (with_unfolding_all rfl) | k_is)
