import PyProof.Rows.All
import Wide.All
import OpenK.AllK
import Wide.FinOn
import HandS.ForMost
import HandS.Gcd
import HandS.Wide
import HandS.TupAny
import HandS.Deep
import HandS.IsInst
import HandS.Style
import HandS.Flow
import HandS.Evl
import PyProof.ReprRoads
import HandS.Iter
import KE.GoesEnum
import KE.GoesMore
import PySem.Challenge.RW_gapwise_k02_gaps_and_spread
set_option Elab.async false
set_option linter.all false
set_option maxRecDepth 100000
namespace G
open PySem L2

/-! ### data: trees without lists and dicts, without bools -/
mutual
def tupD : PyData → Bool
  | .none => true
  | .bool _ => true
  | .int _ => true
  | .str _ => true
  | .list _ => false
  | .tuple xs => tupDs xs
  | .dict _ => false
def tupDs : List PyData → Bool
  | [] => true
  | x :: xs => tupD x && tupDs xs
end
def immut : HO → Bool
  | .tup _ => true
  | .frz _ (.tup _) => true
  | _ => false
/-- tuples stay -/
def Tk (H H' : Hp) : Prop := ∀ b o, H b = some o → immut o = true → H' b = some o
/-- all stays but what is at M -/
def Kp (M : Addr → Prop) (H H' : Hp) : Prop := ∀ b o, H b = some o → ¬ M b → H' b = some o
def M0 : Addr → Prop := fun _ => False
theorem Kp.refl {M : Addr → Prop} (H : Hp) : Kp M H H := fun _ _ h _ => h
theorem Kp.trans {M : Addr → Prop} {H H1 H2 : Hp} (a : Kp M H H1) (b : Kp M H1 H2) : Kp M H H2 := fun c o h n => b c o (a c o h n) n
theorem Kp.new {M : Addr → Prop} {H : Hp} {p : Addr} {o : HO} (h : H p = none) : Kp M H (upd H p o) := fun a u e _ => by
  rw [upd_ne (ne_of_none e h)]; exact e
theorem Kp.at {M : Addr → Prop} {H H1 : Hp} {p : Addr} {o : HO} (h : Kp M H H1) (n : H p = none) : Kp M H (upd H1 p o) := fun a u e m => by
  rw [upd_ne (ne_of_none e n)]; exact h a u e m
theorem Kp.of0 {M : Addr → Prop} {H H' : Hp} (h : Kp M0 H H') : Kp M H H' := fun b o e _ => h b o e (fun z => z)
theorem Kp.same {H H' : Hp} (h : Kp M0 H H') : Same H H' := fun b o e => h b o e (fun z => z)
theorem Kp.mono {M N : Addr → Prop} {H H' : Hp} (h : Kp M H H') (hs : ∀ b, M b → N b) : Kp N H H' := fun b o e n => h b o e (fun m => n (hs b m))
theorem Tk.refl (H : Hp) : Tk H H := fun _ _ h _ => h
theorem Tk.trans {H H1 H2 : Hp} (a : Tk H H1) (b : Tk H1 H2) : Tk H H2 := fun c o h i => b c o (a c o h i) i
theorem Tk.of0 {H H' : Hp} (h : Kp M0 H H') : Tk H H' := fun b o e _ => h b o e (fun z => z)
theorem Tk.new {H : Hp} {p : Addr} {o : HO} (h : H p = none) : Tk H (upd H p o) := Tk.of0 (Kp.new h)
theorem Tk.at {H : Hp} {p : Addr} {o u : HO} (h : H p = some u) (hi : immut u = false) : Tk H (upd H p o) := fun b v e i => by
  by_cases hb : b = p
  · subst hb; rw [e] at h; cases h; rw [hi] at i; cases i
  · rw [upd_ne hb]; exact e
theorem Tk.lst {H : Hp} {p : Addr} {xs : List V} {o : HO} (h : H p = some (.lst xs)) : Tk H (upd H p o) := Tk.at h rfl
theorem Kp.tk {M : Addr → Prop} {H H' : Hp} (h : Kp M H H') (hm : ∀ b o, M b → H b = some o → immut o = false) : Tk H H' := fun b o e i =>
  h b o e fun m => by rw [hm b o m e] at i; cases i

theorem sqT_tk {K : PySem.W.Frag} {H H' : Hp} {a : Addr} {xs : List V} (t : Tk H H') (h : SqT K H a xs) : SqT K H' a xs := by
  rcases h with (h | ⟨o, h⟩) | h
  · exact .inl (.inl (t _ _ h rfl))
  · exact .inl (.inr ⟨o, t _ _ h rfl⟩)
  · exact .inr h
mutual
theorem dp_tk {K : PySem.W.Frag} {H H' : Hp} (t : Tk H H') : ∀ (d : PyData) (v : V), tupD d = true → Dp K H v d → Dp K H' v d
  | .none, _, _, h => by cases h; exact .non
  | .bool b, _, _, h => by cases h; exact .bl b
  | .int i, _, _, h => by cases h; exact .int i
  | .str x, _, _, h => by cases h; exact .str x
  | .list _, _, hd, _ => by simp [tupD] at hd
  | .tuple xs, _, hd, h => by
    cases h with
    | tup hs ha => exact .tup (sqT_tk t hs) (dps_tk t xs _ (by simpa [tupD] using hd) ha)
  | .dict _, _, hd, _ => by simp [tupD] at hd
theorem dps_tk {K : PySem.W.Frag} {H H' : Hp} (t : Tk H H') : ∀ (ds : List PyData) (vs : List V), tupDs ds = true → DpAll K H vs ds → DpAll K H' vs ds
  | [], _, _, h => by cases h; exact .nil
  | d :: ds, _, hd, h => by
    have q : tupD d = true ∧ tupDs ds = true := by simpa [tupDs] using hd
    cases h with
    | cons h1 h2 => exact .cons (dp_tk t d _ q.1 h1) (dps_tk t ds _ q.2 h2)
end
theorem tupDs_all : ∀ {ds : List PyData}, tupDs ds = true ↔ ∀ d ∈ ds, tupD d = true
  | [] => by simp [tupDs]
  | d :: ds => by simp [tupDs, tupDs_all (ds := ds)]
theorem dps_len {K : PySem.W.Frag} {H : Hp} : ∀ {vs : List V} {ds : List PyData}, DpAll K H vs ds → vs.length = ds.length
  | _, _, .nil => rfl
  | _, _, .cons _ t => by simp [dps_len t]
theorem dps_get {K : PySem.W.Frag} {H : Hp} : ∀ {vs : List V} {ds : List PyData} {i : Nat} {v : V}, DpAll K H vs ds → vs[i]? = some v → ∃ d, ds[i]? = some d ∧ Dp K H v d
  | _, _, _, _, .nil, e => by simp at e
  | _, _, 0, v, .cons h _, e => by simp at e; subst e; exact ⟨_, rfl, h⟩
  | _, _, i + 1, v, .cons _ t, e => by
    obtain ⟨d, h1, h2⟩ := dps_get (i := i) t (by simpa using e)
    exact ⟨d, by simpa using h1, h2⟩
theorem dps_get' {K : PySem.W.Frag} {H : Hp} : ∀ {vs : List V} {ds : List PyData} {i : Nat} {d : PyData}, DpAll K H vs ds → ds[i]? = some d → ∃ v, vs[i]? = some v ∧ Dp K H v d
  | _, _, _, _, .nil, e => by simp at e
  | _, _, 0, d, .cons h _, e => by simp at e; subst e; exact ⟨_, rfl, h⟩
  | _, _, i + 1, d, .cons _ t, e => by
    obtain ⟨v, h1, h2⟩ := dps_get' (i := i) t (by simpa using e)
    exact ⟨v, by simpa using h1, h2⟩
theorem dps_app {K : PySem.W.Frag} {H : Hp} : ∀ {vs ws : List V} {ds es : List PyData}, DpAll K H vs ds → DpAll K H ws es → DpAll K H (vs ++ ws) (ds ++ es)
  | _, _, _, _, .nil, h => h
  | _, _, _, _, .cons h t, h' => .cons h (dps_app t h')
theorem dps_one {K : PySem.W.Frag} {H : Hp} {v : V} {d : PyData} (h : Dp K H v d) : DpAll K H [v] [d] := .cons h .nil
theorem dps_take {K : PySem.W.Frag} {H : Hp} : ∀ {vs : List V} {ds : List PyData} (n : Nat), DpAll K H vs ds → DpAll K H (vs.take n) (ds.take n)
  | _, _, 0, _ => by simp; exact .nil
  | _, _, n + 1, .nil => by simp; exact .nil
  | _, _, n + 1, .cons h t => by simp; exact .cons h (dps_take n t)
theorem dps_drop {K : PySem.W.Frag} {H : Hp} : ∀ {vs : List V} {ds : List PyData} (n : Nat), DpAll K H vs ds → DpAll K H (vs.drop n) (ds.drop n)
  | _, _, 0, h => by simpa using h
  | _, _, n + 1, .nil => by simp; exact .nil
  | _, _, n + 1, .cons h t => by simpa using dps_drop n t
theorem dps_ints {K : PySem.W.Frag} {H : Hp} : ∀ (l : List Int), DpAll K H (l.map V.int) (l.map PyData.int)
  | [] => .nil
  | i :: l => .cons (.int i) (dps_ints l)

/-! ### points -/
abbrev Pt := Int × Int
def ptD (x : Pt) : PyData := .tuple [.int x.1, .int x.2]
theorem ptD_tup (x : Pt) : tupD (ptD x) = true := rfl
theorem ptDs_tup (l : List Pt) : tupDs (l.map ptD) = true := tupDs_all.mpr fun d h => by
  obtain ⟨x, _, rfl⟩ := List.mem_map.mp h; rfl
theorem ptD_shaped (x : Pt) : SeqAt.shaped (ptD x) = true := by
  simp [SeqAt.shaped, ptD, PyData.canLay0, PyData.canLayAll0, PyData.depth, PyData.depthAll]
theorem ptD_eqv (x y : Pt) : PyData.eqv (ptD x) (ptD y) = decide (x = y) := by
  obtain ⟨a, b⟩ := x
  obtain ⟨c, d⟩ := y
  simp only [ptD, PyData.eqv, PyData.eqvAll, Bool.and_true]
  rw [Bool.eq_iff_iff]
  simp
theorem pt_mk {K : PySem.W.Frag} {H : Hp} {a : Addr} {p q : Int} (h : SqT K H a [.int p, .int q]) : Dp K H (.ref a) (ptD (p, q)) := .tup h (.cons (.int p) (.cons (.int q) .nil))
theorem pt_of {K : PySem.W.Frag} {H : Hp} {v : V} {x : Pt} (h : Dp K H v (ptD x)) : ∃ a, v = .ref a ∧ SqT K H a [.int x.1, .int x.2] := by
  cases h with
  | tup hs ha =>
    cases ha with
    | cons h1 t =>
      cases h1
      cases t with
      | cons h2 t =>
        cases h2
        cases t
        exact ⟨_, rfl, hs⟩

/-! ### rules -/
section
variable {X : Cx}
def rMulK : R2 := rI IntMulOk fun i j => .int (i * j)
theorem op_mulK : OpR X (binaryOp .Mult) rMulK := opI fun _ _ _ _ _ _ _ hc q => PyProof.Rows.mul_int q hc
theorem mulOk_r {i j : Int} (h1 : -(2 ^ 64) < j) (h2 : j < 2 ^ 64) : IntMulOk i j := .of_right (intBits_le_64 h1 h2)
theorem mulOk_l {i j : Int} (h1 : -(2 ^ 64) < i) (h2 : i < 2 ^ 64) : IntMulOk i j := .of_left (intBits_le_64 h1 h2)
theorem mulOk_w {i j : Int} {a b : Nat} (ha : i.natAbs < 2 ^ a) (hb : j.natAbs < 2 ^ b) (h0 : 0 < a) (h1 : 0 < b) (h : a + b ≤ 1000000) : IntMulOk i j := (wide_mul ha hb h0 h1 h).ok
end
end G
set_option Elab.async false
set_option linter.all false
set_option maxRecDepth 100000
namespace G
open PySem L2

theorem wipe1 (σ : L2.St) (s : Nat) (x : Option V) : wipe ((wipe σ [s]).set s x) [s] = wipe σ [s] := by
  show ((σ.set s none).set s x).set s none = σ.set s none
  rw [List.set_set, List.set_set]

section
variable {K : PySem.W.Frag} {s : Nat} {te : TE} {tt : TT} {σ : L2.St} {H1 : Hp} {D : Addr} {Q : VK}

/-- a list of n elements, made over a range, each by a step that may change what is at M and keeps I -/
theorem lcm_range {lo : Int} {n : Nat} (M : Addr → Prop) (I : Hp → Prop) (P : Nat → PyData → Prop) (hD : H1 D = none) (hI : I (upd H1 D (.lst []))) (hMD : ¬ M D) (hn : n < sizeLine)
    (hst : ∀ H vs, I H → I (upd H D (.lst vs))) (ht : ∀ i d, P i d → tupD d = true) (hm : ∀ H b o, I H → M b → H b = some o → immut o = false)
    (hs : ∀ i H, i < n → Kp M H1 H → I H → ∀ Q' : VK, (∀ y H4 d, Kp M H H4 → I H4 → P i d → Dp K H4 y d → Q' y H4) → te ((wipe σ [s]).set s (some (.int (lo + i)))) H Q')
    (hq : ∀ H vs ds, Kp M H1 H → I H → H D = some (.lst vs) → DpAll K H vs ds → ds.length = n → (∀ i d, ds[i]? = some d → P i d) → Q (.ref D) H) :
    ∃ W : Nat → Nat → Hp → Prop, (∃ m, W 0 m (upd H1 D (.lst []))) ∧ ∀ i m H, W i m H →
      ((Itr lo n).stop i H ∧ Q (.ref D) H) ∨ ((Itr lo n).go i H ∧ ∃ Nx : Hp → Prop, (∀ H', Nx H' → ∃ m', m' < m ∧ W (i + 1) m' H') ∧ ∀ x H', (Itr lo n).yld i H x H' → gName s x (wipe σ [s]) H' fun σ2 H2 => wipe σ2 [s] = wipe σ [s] ∧ tYes σ2 H2 fun b H3 =>
        if b = true then te σ2 H3 fun y H4 => ∃ acc, H4 D = some (.lst acc) ∧ acc.length < sizeLine ∧ Nx (upd H4 D (.lst (acc ++ [y]))) else Nx H3) := by
  refine lc_range (Qd := fun H => Q (.ref D) H) (fun i H => ∃ vs ds, Kp M H1 H ∧ I H ∧ H D = some (.lst vs) ∧ DpAll K H vs ds ∧ ds.length = i ∧ ∀ j d, ds[j]? = some d → P j d)
    ⟨[], [], (Kp.refl H1).at hD, hI, upd_same, .nil, rfl, fun j d e => by simp at e⟩ (fun i H hi hp => ?_) (fun H hp => ?_)
  · obtain ⟨vs, ds, k, hi', hd, ha, hl, hP⟩ := hp
    refine ⟨wipe1 σ s _, ?_⟩
    show te _ H _
    refine hs i H hi k hi' _ fun y H4 d k4 i4 p4 d4 => ?_
    have hd4 : H4 D = some (.lst vs) := k4 D _ hd hMD
    have tk : Tk H H4 := k4.tk fun b o m e => hm H b o hi' m e
    have hdu : tupDs ds = true := tupDs_all.mpr fun z hz => by
      obtain ⟨j, hj⟩ := List.getElem?_of_mem hz
      exact ht j z (hP j z hj)
    refine ⟨vs, hd4, ?_, vs ++ [y], ds ++ [d], (k.trans k4).at hD, hst _ _ i4, upd_same, ?_, by simp [hl], fun j z hz => ?_⟩
    · rw [dps_len ha, hl]; omega
    · exact dps_app (dps_tk (tk.trans (Tk.lst hd4)) _ _ hdu ha) (dps_one (dp_tk (Tk.lst hd4) d y (ht _ _ p4) d4))
    · by_cases hj : j < ds.length
      · rw [List.getElem?_append_left hj] at hz; exact hP j z hz
      · rw [List.getElem?_append_right (by omega)] at hz
        have e0 : j - ds.length = 0 := by
          cases h0 : j - ds.length with
          | zero => rfl
          | succ k => rw [h0] at hz; simp at hz
        rw [e0] at hz
        simp at hz
        subst hz
        have : j = i := by omega
        rw [this]; exact p4
  · obtain ⟨vs, ds, k, hi', hd, ha, hl, hP⟩ := hp
    exact hq H vs ds k hi' hd ha hl hP

/-- .. by a step that changes nothing, each element known -/
theorem lcp_range {lo : Int} {n : Nat} (dd : Nat → PyData) (hD : H1 D = none) (hn : n < sizeLine) (ht : ∀ i, i < n → tupD (dd i) = true)
    (hs : ∀ i H, i < n → Kp M0 H1 H → ∀ Q' : VK, (∀ y H4, Kp M0 H H4 → Dp K H4 y (dd i) → Q' y H4) → te ((wipe σ [s]).set s (some (.int (lo + i)))) H Q')
    (hq : ∀ H vs, Kp M0 H1 H → H D = some (.lst vs) → DpAll K H vs ((List.range n).map dd) → Q (.ref D) H) :
    ∃ W : Nat → Nat → Hp → Prop, (∃ m, W 0 m (upd H1 D (.lst []))) ∧ ∀ i m H, W i m H →
      ((Itr lo n).stop i H ∧ Q (.ref D) H) ∨ ((Itr lo n).go i H ∧ ∃ Nx : Hp → Prop, (∀ H', Nx H' → ∃ m', m' < m ∧ W (i + 1) m' H') ∧ ∀ x H', (Itr lo n).yld i H x H' → gName s x (wipe σ [s]) H' fun σ2 H2 => wipe σ2 [s] = wipe σ [s] ∧ tYes σ2 H2 fun b H3 =>
        if b = true then te σ2 H3 fun y H4 => ∃ acc, H4 D = some (.lst acc) ∧ acc.length < sizeLine ∧ Nx (upd H4 D (.lst (acc ++ [y]))) else Nx H3) := by
  refine lcm_range (K := K) M0 (fun _ => True) (fun i d => i < n ∧ d = dd i) hD trivial (fun z => z) hn (fun _ _ _ => trivial) (fun i d h => by rw [h.2]; exact ht i h.1) (fun _ _ _ _ m _ => m.elim)
    (fun i H hi k _ Q' q => hs i H hi k Q' fun y H4 k4 d4 => q y H4 _ k4 trivial ⟨hi, rfl⟩ d4) (fun H vs ds k _ hd ha hl hP => ?_)
  refine hq H vs k hd ?_
  have e : ds = (List.range n).map dd := by
    apply List.ext_getElem?
    intro j
    by_cases hj : j < n
    · have h1 : ds[j]? = some ds[j] := List.getElem?_eq_getElem (by omega)
      rw [h1, (hP j _ h1).2]
      simp [hj]
    · rw [List.getElem?_eq_none (by omega), List.getElem?_eq_none (by simp; omega)]
  rw [← e]; exact ha

theorem filter_snoc {α : Type} (p : α → Bool) (l : List α) (x : α) : (l ++ [x]).filter p = l.filter p ++ (if p x = true then [x] else []) := by
  rw [List.filter_append]
  congr 1
  by_cases h : p x = true
  · simp [h]
  · simp [h]
theorem take_snoc {α : Type} {l : List α} {i : Nat} {x : α} (h : l[i]? = some x) : l.take (i + 1) = l.take i ++ [x] := by
  rw [List.take_add_one, h]; rfl

/-- the body of a turn over a list or a tuple of trees -/
theorem turn_ok {ds : List PyData} {b : PyData → Bool} {f : PyData → PyData} {i : Nat} {x : V} {d : PyData} {H : Hp} {Nx : Hp → Prop} (hD : H1 D = none) (hn : ds.length < sizeLine) (ht : ∀ d ∈ ds, b d = true → tupD (f d) = true)
    (hi : ds[i]? = some d) (hx : Dp K H x d) (hp : ∃ vs, Kp M0 H1 H ∧ H D = some (.lst vs) ∧ DpAll K H vs (((ds.take i).filter b).map f))
    (htt : ∀ Q' : Bool → Hp → Prop, (∀ H3, Kp M0 H H3 → Q' (b d) H3) → tt ((wipe σ [s]).set s (some x)) H Q')
    (hte : b d = true → ∀ H3, Kp M0 H H3 → ∀ Q' : VK, (∀ y H4, Kp M0 H3 H4 → Dp K H4 y (f d) → Q' y H4) → te ((wipe σ [s]).set s (some x)) H3 Q')
    (hN : ∀ H', (∃ vs, Kp M0 H1 H' ∧ H' D = some (.lst vs) ∧ DpAll K H' vs (((ds.take (i + 1)).filter b).map f)) → Nx H') :
    gName s x (wipe σ [s]) H fun σ2 H2 => wipe σ2 [s] = wipe σ [s] ∧ tt σ2 H2 fun c H3 =>
        if c = true then te σ2 H3 fun y H4 => ∃ acc, H4 D = some (.lst acc) ∧ acc.length < sizeLine ∧ Nx (upd H4 D (.lst (acc ++ [y]))) else Nx H3 := by
  obtain ⟨vs, k, hd, ha⟩ := hp
  refine ⟨wipe1 σ s _, ?_⟩
  refine htt _ fun H3 k3 => ?_
  have hm : d ∈ ds := List.mem_of_getElem? hi
  have hdu : tupDs (((ds.take i).filter b).map f) = true := tupDs_all.mpr fun z hz => by
    obtain ⟨y, hy, rfl⟩ := List.mem_map.mp hz
    obtain ⟨h1, h2⟩ := List.mem_filter.mp hy
    exact ht y (List.mem_of_mem_take h1) h2
  have hd3 : H3 D = some (.lst vs) := k3 D _ hd (fun z => z)
  have hlen : vs.length ≤ ds.length := by
    rw [dps_len ha, List.length_map]
    exact Nat.le_trans (List.length_filter_le _ _) (by simp; omega)
  refine ite2 (fun hb => ?_) (fun hb => ?_)
  · refine hte hb H3 k3 _ fun y H4 k4 d4 => ?_
    have hd4 : H4 D = some (.lst vs) := k4 D _ hd3 (fun z => z)
    refine ⟨vs, hd4, by omega, hN _ ⟨vs ++ [y], ((k.trans k3).trans k4).at hD, upd_same, ?_⟩⟩
    rw [take_snoc hi, filter_snoc, if_pos hb, List.map_append]
    exact dps_app (dps_tk ((Tk.of0 (k3.trans k4)).trans (Tk.lst hd4)) _ _ hdu ha) (dps_one (dp_tk (Tk.lst hd4) _ y (ht d hm hb) d4))
  · refine hN _ ⟨vs, k.trans k3, hd3, ?_⟩
    rw [take_snoc hi, filter_snoc, if_neg hb, List.append_nil]
    exact dps_tk (Tk.of0 k3) _ _ hdu ha

theorem lcp_list {a : Addr} {xs : List V} (ds : List PyData) (b : PyData → Bool) (f : PyData → PyData) (hD : H1 D = none) (hn : ds.length < sizeLine) (hx : SqL K H1 a xs) (hxs : DpAll K H1 xs ds) (hdu : tupDs ds = true)
    (ht : ∀ d ∈ ds, b d = true → tupD (f d) = true)
    (htt : ∀ (i : Nat) (d : PyData) (x : V) (H : Hp), ds[i]? = some d → Dp K H x d → Kp M0 H1 H → ∀ Q' : Bool → Hp → Prop, (∀ H3, Kp M0 H H3 → Q' (b d) H3) → tt ((wipe σ [s]).set s (some x)) H Q')
    (hte : ∀ (i : Nat) (d : PyData) (x : V) (H : Hp), ds[i]? = some d → b d = true → Dp K H x d → Kp M0 H1 H → ∀ Q' : VK, (∀ y H4, Kp M0 H H4 → Dp K H4 y (f d) → Q' y H4) → te ((wipe σ [s]).set s (some x)) H Q')
    (hq : ∀ H vs, Kp M0 H1 H → H D = some (.lst vs) → DpAll K H vs ((ds.filter b).map f) → Q (.ref D) H) :
    ∃ W : Nat → Nat → Hp → Prop, (∃ m, W 0 m (upd H1 D (.lst []))) ∧ ∀ i m H, W i m H →
      ((Itl K a).stop i H ∧ Q (.ref D) H) ∨ ((Itl K a).go i H ∧ ∃ Nx : Hp → Prop, (∀ H', Nx H' → ∃ m', m' < m ∧ W (i + 1) m' H') ∧ ∀ x H', (Itl K a).yld i H x H' → gName s x (wipe σ [s]) H' fun σ2 H2 => wipe σ2 [s] = wipe σ [s] ∧ tt σ2 H2 fun b H3 =>
        if b = true then te σ2 H3 fun y H4 => ∃ acc, H4 D = some (.lst acc) ∧ acc.length < sizeLine ∧ Nx (upd H4 D (.lst (acc ++ [y]))) else Nx H3) := by
  have hl := dps_len hxs
  refine lc_list (xs := xs) (Qd := fun H => Q (.ref D) H) (fun i H => ∃ vs, Kp M0 H1 H ∧ H D = some (.lst vs) ∧ DpAll K H vs (((ds.take i).filter b).map f))
    ⟨[], (Kp.refl H1).at hD, upd_same, by simp; exact .nil⟩ (fun i H _ ⟨_, k, _, _⟩ => k.same.seq hx) (fun i x H hi hp => ?_) (fun H hp => ?_)
  · obtain ⟨vs, k, hd, ha⟩ := id hp
    obtain ⟨d, e1, e2⟩ := dps_get (dps_tk (Tk.of0 k) _ _ hdu hxs) hi
    exact turn_ok hD hn ht e1 e2 hp (htt i d x H e1 e2 k) (fun hb H3 k3 Q' q => hte i d x H3 e1 hb (dp_tk (Tk.of0 k3) d x (tupDs_all.mp hdu d (List.mem_of_getElem? e1)) e2) (k.trans k3) Q' q) fun H' z => z
  · obtain ⟨vs, k, hd, ha⟩ := hp
    rw [hl, List.take_length] at ha
    exact hq H vs k hd ha

theorem lcp_tup {a : Addr} {xs : List V} (ds : List PyData) (b : PyData → Bool) (f : PyData → PyData) (hD : H1 D = none) (hn : ds.length < sizeLine) (hx : SqT K H1 a xs) (hxs : DpAll K H1 xs ds) (hdu : tupDs ds = true)
    (ht : ∀ d ∈ ds, b d = true → tupD (f d) = true)
    (htt : ∀ (i : Nat) (d : PyData) (x : V) (H : Hp), ds[i]? = some d → Dp K H x d → Kp M0 H1 H → ∀ Q' : Bool → Hp → Prop, (∀ H3, Kp M0 H H3 → Q' (b d) H3) → tt ((wipe σ [s]).set s (some x)) H Q')
    (hte : ∀ (i : Nat) (d : PyData) (x : V) (H : Hp), ds[i]? = some d → b d = true → Dp K H x d → Kp M0 H1 H → ∀ Q' : VK, (∀ y H4, Kp M0 H H4 → Dp K H4 y (f d) → Q' y H4) → te ((wipe σ [s]).set s (some x)) H Q')
    (hq : ∀ H vs, Kp M0 H1 H → H D = some (.lst vs) → DpAll K H vs ((ds.filter b).map f) → Q (.ref D) H) :
    ∃ W : Nat → Nat → Hp → Prop, (∃ m, W 0 m (upd H1 D (.lst []))) ∧ ∀ i m H, W i m H →
      ((Itt K a).stop i H ∧ Q (.ref D) H) ∨ ((Itt K a).go i H ∧ ∃ Nx : Hp → Prop, (∀ H', Nx H' → ∃ m', m' < m ∧ W (i + 1) m' H') ∧ ∀ x H', (Itt K a).yld i H x H' → gName s x (wipe σ [s]) H' fun σ2 H2 => wipe σ2 [s] = wipe σ [s] ∧ tt σ2 H2 fun b H3 =>
        if b = true then te σ2 H3 fun y H4 => ∃ acc, H4 D = some (.lst acc) ∧ acc.length < sizeLine ∧ Nx (upd H4 D (.lst (acc ++ [y]))) else Nx H3) := by
  have hl := dps_len hxs
  refine lc_tup (xs := xs) (Qd := fun H => Q (.ref D) H) (fun i H => ∃ vs, Kp M0 H1 H ∧ H D = some (.lst vs) ∧ DpAll K H vs (((ds.take i).filter b).map f))
    ⟨[], (Kp.refl H1).at hD, upd_same, by simp; exact .nil⟩ (fun i H _ ⟨_, k, _, _⟩ => sqT_tk (Tk.of0 k) hx) (fun i x H hi hp => ?_) (fun H hp => ?_)
  · obtain ⟨vs, k, hd, ha⟩ := id hp
    obtain ⟨d, e1, e2⟩ := dps_get (dps_tk (Tk.of0 k) _ _ hdu hxs) hi
    exact turn_ok hD hn ht e1 e2 hp (htt i d x H e1 e2 k) (fun hb H3 k3 Q' q => hte i d x H3 e1 hb (dp_tk (Tk.of0 k3) d x (tupDs_all.mp hdu d (List.mem_of_getElem? e1)) e2) (k.trans k3) Q' q) fun H' z => z
  · obtain ⟨vs, k, hd, ha⟩ := hp
    rw [hl, List.take_length] at ha
    exact hq H vs k hd ha
end

theorem while_at {c : TT} {tb : TS} {D : Ends} {σ : L2.St} {H : Hp} (Pv : L2.St → Hp → Prop) (μ : L2.St → Hp → Nat) (h0 : Pv σ H)
    (hs : ∀ σ H, Pv σ H → c σ H fun b H1 => if b = true then ∃ N : L2.St → Hp → Prop, (∀ σ' H', N σ' H' → Pv σ' H' ∧ μ σ' H' < μ σ H) ∧ tb { D with nx := N, ct := N, bk := D.nx } σ H1 else D.nx σ H1) : tWhile c tb D σ H := by
  refine ⟨fun m σ H => m = μ σ H ∧ Pv σ H, ⟨_, rfl, h0⟩, ?_⟩
  rintro m σ H ⟨rfl, p⟩
  have e : (fun (b : Bool) (H1 : Hp) => if b = true then ∃ N : L2.St → Hp → Prop, (∀ σ' H', N σ' H' → ∃ m', m' < μ σ H ∧ m' = μ σ' H' ∧ Pv σ' H') ∧ tb { D with nx := N, ct := N, bk := D.nx } σ H1 else D.nx σ H1) =
      (fun (b : Bool) (H1 : Hp) => if b = true then ∃ N : L2.St → Hp → Prop, (∀ σ' H', N σ' H' → Pv σ' H' ∧ μ σ' H' < μ σ H) ∧ tb { D with nx := N, ct := N, bk := D.nx } σ H1 else D.nx σ H1) := by
    funext b H1
    congr 1
    refine propext (exists_congr fun N => and_congr_left fun _ => ⟨fun h σ' H' n => ?_, fun h σ' H' n => ?_⟩)
    · obtain ⟨m', l, rfl, q⟩ := h σ' H' n
      exact ⟨q, l⟩
    · exact ⟨_, (h σ' H' n).2, rfl, (h σ' H' n).1⟩
  have q := hs σ H p
  rw [← e] at q
  exact q

/-! ### comprehensions whose source has been worked out -/
section
variable {K : PySem.W.Frag} {s : Nat} {te : TE} {tt : TT} {σ : L2.St} {H H1 : Hp} {Q : VK}
def LcIt (J : It) (s : Nat) (tt : TT) (te : TE) (σ : L2.St) (Q : VK) (H1 : Hp) : Prop := ∀ D, H1 D = none →
    ∃ W : Nat → Nat → Hp → Prop, (∃ m, W 0 m (upd H1 D (.lst []))) ∧ ∀ i m H, W i m H →
      (J.stop i H ∧ Q (.ref D) H) ∨ (J.go i H ∧ ∃ Nx : Hp → Prop, (∀ H', Nx H' → ∃ m', m' < m ∧ W (i + 1) m' H') ∧ ∀ x H', J.yld i H x H' → gName s x (wipe σ [s]) H' fun σ2 H2 => wipe σ2 [s] = wipe σ [s] ∧ tt σ2 H2 fun b H3 =>
        if b = true then te σ2 H3 fun y H4 => ∃ acc, H4 D = some (.lst acc) ∧ acc.length < sizeLine ∧ Nx (upd H4 D (.lst (acc ++ [y]))) else Nx H3)
def LcL (K : PySem.W.Frag) (s : Nat) (tt : TT) (te : TE) (σ : L2.St) (Q : VK) (x : V) (H1 : Hp) : Prop := ∃ a, x = .ref a ∧ (∃ xs, SqL K H1 a xs) ∧ LcIt (Itl K a) s tt te σ Q H1
def LcT (K : PySem.W.Frag) (s : Nat) (tt : TT) (te : TE) (σ : L2.St) (Q : VK) (x : V) (H1 : Hp) : Prop := ∃ a, x = .ref a ∧ (∃ xs, SqT K H1 a xs) ∧ LcIt (Itt K a) s tt te σ Q H1
def LcR (s : Nat) (tt : TT) (te : TE) (σ : L2.St) (Q : VK) (vs : List V) (H1 : Hp) : Prop := ∃ j, vs = [.int j] ∧ -2 ^ 62 ≤ j ∧ j < 2 ^ 62 ∧ LcIt (Itr 0 j.toNat) s tt te σ Q H1
def LcR2 (s : Nat) (tt : TT) (te : TE) (σ : L2.St) (Q : VK) (vs : List V) (H1 : Hp) : Prop := ∃ i j, vs = [.int i, .int j] ∧ (-2 ^ 62 ≤ i ∧ i < 2 ^ 62 ∧ -2 ^ 62 ≤ j ∧ j < 2 ^ 62) ∧ LcIt (Itr i (j - i).toNat) s tt te σ Q H1
theorem tlcL {tl : TE} (h : tl σ H (LcL K s tt te σ Q)) : tLc (iList K tl) (gName s) tt te [s] σ H Q := h
theorem tlcT {tl : TE} (h : tl σ H (LcT K s tt te σ Q)) : tLc (iTup K tl) (gName s) tt te [s] σ H Q := h
theorem tlcR {ta : TA} (h : ta σ H (LcR s tt te σ Q)) : tLc (iRng1 ta) (gName s) tt te [s] σ H Q := h
theorem tlcR2 {ta : TA} (h : ta σ H (LcR2 s tt te σ Q)) : tLc (iRng2 ta) (gName s) tt te [s] σ H Q := h

theorem lcL {a : Addr} {xs : List V} (ds : List PyData) (b : PyData → Bool) (f : PyData → PyData) (hn : ds.length < sizeLine) (hx : SqL K H1 a xs) (hxs : DpAll K H1 xs ds) (hdu : tupDs ds = true)
    (ht : ∀ d ∈ ds, b d = true → tupD (f d) = true)
    (htt : ∀ (i : Nat) (d : PyData) (x : V) (H : Hp), ds[i]? = some d → Dp K H x d → Kp M0 H1 H → ∀ Q' : Bool → Hp → Prop, (∀ H3, Kp M0 H H3 → Q' (b d) H3) → tt ((σ.set s none).set s (some x)) H Q')
    (hte : ∀ (i : Nat) (d : PyData) (x : V) (H : Hp), ds[i]? = some d → b d = true → Dp K H x d → Kp M0 H1 H → ∀ Q' : VK, (∀ y H4, Kp M0 H H4 → Dp K H4 y (f d) → Q' y H4) → te ((σ.set s none).set s (some x)) H Q')
    (hq : ∀ D H vs, H1 D = none → Kp M0 H1 H → H D = some (.lst vs) → DpAll K H vs ((ds.filter b).map f) → Q (.ref D) H) : LcL K s tt te σ Q (.ref a) H1 :=
  ⟨a, rfl, ⟨xs, hx⟩, fun D hD => lcp_list ds b f hD hn hx hxs hdu ht htt hte fun H vs => hq D H vs hD⟩
theorem lcT {a : Addr} {xs : List V} (ds : List PyData) (b : PyData → Bool) (f : PyData → PyData) (hn : ds.length < sizeLine) (hx : SqT K H1 a xs) (hxs : DpAll K H1 xs ds) (hdu : tupDs ds = true)
    (ht : ∀ d ∈ ds, b d = true → tupD (f d) = true)
    (htt : ∀ (i : Nat) (d : PyData) (x : V) (H : Hp), ds[i]? = some d → Dp K H x d → Kp M0 H1 H → ∀ Q' : Bool → Hp → Prop, (∀ H3, Kp M0 H H3 → Q' (b d) H3) → tt ((σ.set s none).set s (some x)) H Q')
    (hte : ∀ (i : Nat) (d : PyData) (x : V) (H : Hp), ds[i]? = some d → b d = true → Dp K H x d → Kp M0 H1 H → ∀ Q' : VK, (∀ y H4, Kp M0 H H4 → Dp K H4 y (f d) → Q' y H4) → te ((σ.set s none).set s (some x)) H Q')
    (hq : ∀ D H vs, H1 D = none → Kp M0 H1 H → H D = some (.lst vs) → DpAll K H vs ((ds.filter b).map f) → Q (.ref D) H) : LcT K s tt te σ Q (.ref a) H1 :=
  ⟨a, rfl, ⟨xs, hx⟩, fun D hD => lcp_tup ds b f hD hn hx hxs hdu ht htt hte fun H vs => hq D H vs hD⟩
/-- without a test -/
theorem htt_yes {ds : List PyData} (i : Nat) (d : PyData) (x : V) (H : Hp) (_ : ds[i]? = some d) (_ : Dp K H x d) (_ : Kp M0 H1 H) (Q' : Bool → Hp → Prop) (q : ∀ H3, Kp M0 H H3 → Q' ((fun _ => true) d) H3) : tYes ((σ.set s none).set s (some x)) H Q' := q H (Kp.refl H)
theorem lcR {n : Nat} (dd : Nat → PyData) (hn : n < sizeLine) (ht : ∀ i, i < n → tupD (dd i) = true)
    (hs : ∀ i H, i < n → Kp M0 H1 H → ∀ Q' : VK, (∀ y H4, Kp M0 H H4 → Dp K H4 y (dd i) → Q' y H4) → te ((σ.set s none).set s (some (.int (i : Nat)))) H Q')
    (hq : ∀ D H vs, H1 D = none → Kp M0 H1 H → H D = some (.lst vs) → DpAll K H vs ((List.range n).map dd) → Q (.ref D) H) : LcR s tYes te σ Q [.int n] H1 := by
  have hz : n < 16777216 := by rw [← sizeLine_eq]; exact hn
  refine ⟨n, rfl, by omega, by omega, fun D hD => ?_⟩
  rw [Int.toNat_natCast]
  exact lcp_range (K := K) dd hD hn ht (fun i H hi k Q' q => by
    have z := hs i H hi k Q' q
    rw [show (0 : Int) + (i : Nat) = (i : Nat) by omega]
    exact z) fun H vs => hq D H vs hD
theorem lcR2 {lo hi : Int} {n : Nat} (e : (hi - lo).toNat = n) (h1 : -1000000 ≤ lo) (h2 : lo ≤ 1000000) (h3 : -1000000 ≤ hi) (h4 : hi ≤ 1000000) (dd : Nat → PyData) (ht : ∀ i, i < n → tupD (dd i) = true)
    (hs : ∀ i H, i < n → Kp M0 H1 H → ∀ Q' : VK, (∀ y H4, Kp M0 H H4 → Dp K H4 y (dd i) → Q' y H4) → te ((σ.set s none).set s (some (.int (lo + (i : Nat))))) H Q')
    (hq : ∀ D H vs, H1 D = none → Kp M0 H1 H → H D = some (.lst vs) → DpAll K H vs ((List.range n).map dd) → Q (.ref D) H) : LcR2 s tYes te σ Q [.int lo, .int hi] H1 := by
  refine ⟨lo, hi, rfl, ⟨by omega, by omega, by omega, by omega⟩, fun D hD => ?_⟩
  rw [e]
  exact lcp_range (K := K) dd hD (by rw [sizeLine_eq]; omega) ht hs fun H vs => hq D H vs hD
end
end G
set_option Elab.async false
set_option linter.all false
set_option maxRecDepth 100000
namespace G
open PySem L2 PySem.Spec PyProof.Rows

/-! ### defs that are promised only where no repr is under way -/
abbrev NoRepr (R : Around) : Prop := R.guards = some []
/-- as FnOk, where no repr is under way -/
structure FnG (P : Program) (w : World) (K : PySem.W.Frag) (mg : Str → Option Value) (base : Heap) (k : Nat) (f : Addr) (fd : FuncData) (ps : List Str) (sp : Sp) : Prop where
  len : ∀ vs H Q E, sp vs H Q E → vs.length = ps.length
  run : ∀ (R : Around) (up : List Env) (z : Shared) (H : Hp) (gs : Args) (ys : List Value) (vs : List V) (Q : VK) (E : XK), NoRepr R → Room k R →
    Env0 P w K mg base R up z H → BindsTo z fd gs (ps.zip ys) → Vals vs ys → sp vs H Q E → codeAny (model P w) R (.call (.ref f) gs) (CR CX0 up P w H z Q E) z
section
variable {P : Program} {w : World} {K : PySem.W.Frag} {mg : Str → Option Value} {base : Heap}
theorem FnG.of {k : Nat} {f : Addr} {fd : FuncData} {ps : List Str} {sp : Sp} (F : FnOk P w K mg base CX0 k f fd ps sp) : FnG P w K mg base k f fd ps sp :=
  ⟨F.len, fun R up z H gs ys vs Q E _ => F.run R up z H gs ys vs Q E⟩
/-- a def by its body, where no repr is under way -/
theorem fnG_ok {x qual : Str} {st : Stmt} {f : Addr} {fd : FuncData} {N ps : List Str} {k : Nat} {sp : Sp} (F : Fun K x qual st f fd) (S : FnScope N ps (defScope st)) (len : ∀ vs H Q E, sp vs H Q E → vs.length = ps.length)
    (body : ∀ (cd : Value) (R : Around) (up : List Env) (z : Shared) (H : Hp) (vs : List V) (Q : VK) (E : XK), NoRepr (R.deeper (envOfC qual (defScope st) z.heap.objs.size f cd)) →
      Room k (R.deeper (envOfC qual (defScope st) z.heap.objs.size f cd)) → sp vs H Q E →
      ∃ t, PSs (cxOf CX0 P w K mg base N qual (defScope st) f cd R up z H E).nox (defBody st) t ∧ t { nx := fun _ H' => Q .non H', rt := Q } (L2.start N vs) H) : FnG P w K mg base (k + 1) f fd ps sp := by
  obtain ⟨oc, od, kV, doc, pm, an, cd, ct, osl, rfl, look, code⟩ := F.ex
  constructor
  · exact len
  intro R up z H gs ys vs Q E nr room e0 bind rel want
  have many := len _ _ _ _ want
  have stays : ∀ b o, base.get? b = some o → z.heap.get? b = some o := fun b o e => (e0.bs b o e).1
  have inK : K.In z.heap := e0.mod.kin.keeps stays
  have places : ∀ y ∈ ps.zip ys, (defScope st).names.lookup y.1 = some .local ∨
      ((defScope st).names.lookup y.1 = some .cell ∧ ((cellsFrom (z.heap.objs.size + 1) (defScope st).names []).lookup y.1).isSome = true) := by
    rintro ⟨n, v⟩ hy
    rcases S.par n (List.of_mem_zip hy).1 with q | q
    · exact Or.inl q
    · exact Or.inr ⟨q, PySem.W.cellsFrom_some _ _ _ (Or.inl q)⟩
  refine codeAny_call_function room.depth (inK _ _ look) rfl S.co S.gen rfl (PySem.W.codeRec_of inK code) (bind _ _ _ _ ?_)
  refine wpAny_newFunctionEnv_cells S.kind places fun env he z1 y => ?_
  subst he
  refine ⟨(e0.mod.nolimit.keeps stays).keeps y.toInCall.keep, codeAny_func ?_⟩
  obtain ⟨t, ht, done⟩ := body cd R up z H vs Q E nr (room.deeper _) want
  have start0 : Inv (cxOf CX0 P w K mg base N qual (defScope st) f cd R up z H E) [] (L2.start N vs) H z1 := inv_start S room.hd e0 many rel y
  refine wpAny_mono (ht.nox.run [] z1 (L2.start N vs) H _ start0 done) (fun fl z2 hz => ?_) fun e z2 hz => hz
  cases fl with
  | ret u =>
    obtain ⟨v, σ', H', J, rv, q⟩ := hz
    exact ⟨v, H', J.os, J.bare, J.base, J.hok, rv, q⟩
  | next =>
    obtain ⟨σ', H', J, q⟩ := hz
    exact ⟨V.non, H', J.os, J.bare, J.base, J.hok, rfl, q⟩
  | brk =>
    obtain ⟨_, _, _, q⟩ := hz
    cases q
  | cont =>
    obtain ⟨_, _, _, q⟩ := hz
    cases q
end
section
variable {X : Cx} {k : Nat} {f : Addr} {fd : FuncData} {ps : List Str} {sp : Sp} {x : Str} {p pos : Pos} {e : Expr} {es : List Expr} {t : TA}
/-- f(..), f such a def -/
theorem peG_call (F : FnG X.prog X.w X.K X.mg X.base k f fd ps sp) (nr : NoRepr X.A) (room : Room k X.A) (hg : Gl X x) (hm : X.mg x = some (.ref f)) (hk : PySem.W.keepIn X.K (.ref f) = true) (hb : Binds X.K fd ps [])
    (ha : PA X (e :: es) t) (hdb : (x == ("__debug__" : Str)) = false := by decide) (he : starEach (e :: es) X.env = (false, eval e X.env) :: starEach es X.env := by rfl) (hpl : (backTo pos (starEach es X.env)).any (·.1) = false := by rfl) :
    PE X (.Call (.Name x p) (e :: es) [] pos) (tCall sp [] E0 t) := by
  constructor
  intro pins s σ H Q I h
  refine wpAny_Call_Name_kw (ld_glob I hg hm ?_ hdb)
  refine PySem.W.callWith_K (h₀ := X.base) I.ok.mod.kin hk (thn (ha.run pos pins s σ H _ I h) fun us s1 ⟨vs, H1, I1, r, q⟩ => ⟨I1.kIn, ?_⟩) he hpl
  have q' : sp (vs ++ []) H1 Q E0 := q
  rw [List.append_nil] at q'
  have many : us.length = ps.length := by rw [← r.length]; exact F.len _ _ _ _ q'
  have bind := hb s1 us I1.kIn (by rw [List.append_nil]; exact many)
  rw [List.append_nil] at bind
  refine wpAny_call (codeAny_mono (F.run X.A X.stack s1 H1 ⟨us, []⟩ us vs Q E0 nr room I1.env0 bind r q') fun res s2 hz => ?_)
  cases res with
  | error e => exact False.elim hz
  | ok fl =>
    cases fl with
    | ret u => exact I1.after hz
    | next => exact False.elim hz
    | brk => exact False.elim hz
    | cont => exact False.elim hz

/-! ### repr of data -/
def rReprD (K : PySem.W.Frag) : List V → Hp → VK → Prop := fun xs H Q => ∃ v d, xs = [v] ∧ Dp K H v d ∧ d.showable = true ∧ d.canLay0 = true ∧ d.depth ≤ 60 ∧ d.shown.length ≤ sizeLine ∧ Q (.str d.shown) H
theorem cr_reprD (hu : X.A.units + 65 < cLine) (nr : NoRepr X.A) : CallR X (.builtin "repr") (rReprD X.K) := by
  intro pins s σ H xs us Q I r h
  obtain ⟨v, d, rfl, hd, hs, hc, hz, hl, q⟩ := h
  obtain ⟨u, rfl, ru⟩ : ∃ u, us = [u] ∧ RelV v u := by
    cases r with
    | cons r1 r2 => cases r2; exact ⟨_, rfl, r1⟩
  cases hd with
  | non => cases ru; exact PySem.P.repr_of_none ⟨V.str _, H, I.tok _, ⟨_, rfl⟩, by simpa [PyData.shown] using q⟩
  | bl b => cases ru; exact PySem.P.repr_of_bool ⟨V.str _, H, I.tok _, ⟨_, rfl⟩, by simpa [PyData.shown] using q⟩
  | int i => obtain ⟨t, rfl⟩ := ru; exact PySem.P.repr_of_int (by simpa [PyData.showable] using hs) ⟨V.str _, H, I.tok _, ⟨_, rfl⟩, by simpa [PyData.shown] using q⟩
  | str x => obtain ⟨t, rfl⟩ := ru; exact PySem.P.repr_of_str ⟨V.str _, H, I.tok _, ⟨_, rfl⟩, by simpa [PyData.shown] using q⟩ hl
  | lst h1 h2 =>
    cases ru
    obtain ⟨as, rd⟩ := Dp.reads I _ _ _ (.lst h1 h2) rfl
    exact repr_of_reads' rd hs (PyData.noDict_hsm (PyData.hasDict_of_canLay _ hc)) nr (by omega) (fun _ _ e => e) (fun h' u tk kk => ⟨V.str _, H, I.kept kk, ⟨_, rfl⟩, q⟩) hl
  | tup h1 h2 =>
    cases ru
    obtain ⟨as, rd⟩ := Dp.reads I _ _ _ (.tup h1 h2) rfl
    exact repr_of_reads' rd hs (PyData.noDict_hsm (PyData.hasDict_of_canLay _ hc)) nr (by omega) (fun _ _ e => e) (fun h' u tk kk => ⟨V.str _, H, I.kept kk, ⟨_, rfl⟩, q⟩) hl
end
/-! ### the law's own call, where no repr is under way -/
section
variable {P : Program} {w : World} {K : PySem.W.Frag} {mg mb : Str → Option Value}
theorem enterG {k : Nat} {f l : Addr} {fd : FuncData} {x : Str} {sp : Sp} {z : Shared} {us : List Value} {ns : List Int}
    (kin : K.In z.heap) (gl : z.heap.Ns mainGlobals mg) (bl : z.heap.Ns builtinsNs mb) (bb : ∀ x : Str, x ≠ "__name__" → mb x = bootBuiltins x) (nl : z.heap.NoLimit) (ng : z.gens = #[])
    (hl : z.heap.get? l = some { cls := .type "list", data := .seq us.toArray }) (hi : IntsAre us ns) (many : ns.length ≤ sizeLine) (room : Room k callerA)
    (F : ∀ base : Heap, K.In base → base.Ns mainGlobals mg → FnG P w K mg base k f fd [x] sp) (bind : ∀ (s : Shared) (u : Value), BindsTo s fd ⟨[u], []⟩ [(x, u)])
    (want : ∀ H : Hp, SqL K H l (ns.map V.int) → sp [.ref l] H (fun v _ => v = .bl true) E0) :
    codeAny (model P w) callerA (.call (.ref f) ⟨[.ref l], []⟩) (fun r z' => r = .ok (.ret (.bool true)) ∧ OldK z.heap z'.heap ∧ z'.os = z.os ∧ AllBare z'.gens) z := by
  have rel := vals_ints hi
  have size := hi.length
  -- H has the script, known to its object, or nothing
  have go : ∀ H : Hp, (∀ b, H b = none ∨ (b = l ∧ H b = some (.frz { cls := .type "list", data := .seq us.toArray } (.lst (ns.map V.int))))) → SqL K H l (ns.map V.int) → HOk P w H z.heap → (H l ≠ none → K.lookup l = none) →
      codeAny (model P w) callerA (.call (.ref f) ⟨[.ref l], []⟩) (fun r z' => r = .ok (.ret (.bool true)) ∧ OldK z.heap z'.heap ∧ z'.os = z.os ∧ AllBare z'.gens) z := by
    intro H all seq held out
    have seqD : ∀ {b : Addr} {o : Obj} {es : Array DictEntry} {ep : Nat}, z.heap.get? b = some o → o.data = .dict es ep → H b = none := by
      intro b o es ep e d
      rcases all b with q | ⟨rfl, q⟩
      · exact q
      · rw [hl] at e
        cases e
        cases d
    have nsD : ∀ {b : Addr} {m : Str → Option Value}, z.heap.Ns b m → (hidT z.heap H).Ns b m := by
      rintro b m ⟨o, es, ep, e, d, r⟩
      exact ⟨o, es, ep, hidT_get e (seqD e d), d, r⟩
    have kinD : K.In (hidT z.heap H) := by
      intro b o e
      refine hidT_get (kin b o e) ?_
      rcases all b with q | ⟨rfl, q⟩
      · exact q
      · rw [out (by rw [q]; simp)] at e
        cases e
    have modD : Mod K mg (hidT z.heap H) := by
      obtain ⟨mc, n1, n2⟩ := nl
      exact ⟨kinD, nsD gl, ⟨mb, nsD bl, bb⟩, ⟨mc, nsD n1, n2⟩⟩
    have e0 : Env0 P w K mg (hidT z.heap H) callerA [] z H :=
      ⟨rfl, modD, fun b o e => of_hidT e, Nat.le_of_eq (hidT_size _ _), trivial, fun b hb => absurd (show b ∈ ([] : List Addr) from hb) (by simp), held, .of_eq ng⟩
    refine codeAny_mono ((F _ kinD (nsD gl)).run callerA [] z H ⟨[.ref l], []⟩ [.ref l] [.ref l] _ _ rfl room e0 (bind z (.ref l)) (.cons rfl .nil) (want H seq)) fun r z' got => ?_
    cases r with
    | error e => exact False.elim got
    | ok fl =>
      cases fl with
      | next => exact False.elim got
      | brk => exact False.elim got
      | cont => exact False.elim got
      | ret u =>
        obtain ⟨v, H', os, bare, un, held', rv, q⟩ := got
        have q' : v = .bl true := q
        subst q'
        obtain rfl : u = Value.bool true := rv
        refine ⟨rfl, OldK.of_keep fun b o e => ?_, os, bare⟩
        rcases all b with n | ⟨rfl, q⟩
        · exact un.keep b o e n (fun y => absurd (show b ∈ ([] : List Addr) from y) (by simp)) (by simp)
        · obtain ⟨e1, _⟩ := held b _ q
          obtain ⟨e2, _⟩ := held' b _ (un.frzs b _ _ q)
          rw [e] at e1
          cases e1
          exact e2
  cases hk : K.lookup l with
  | some o =>
    have e := kin l o hk
    rw [hl] at e
    cases e
    exact go (fun _ => none) (fun _ => Or.inl rfl) (Or.inr ⟨_, us.toArray, _, hk, rfl, rfl, rfl, by rw [List.size_toArray, size]; exact many, by simpa using rel⟩) (fun b u y => nomatch (show (none : Option HO) = some u from y)) fun y => absurd rfl y
  | none =>
    refine go (fun b => if b = l then some (.frz { cls := .type "list", data := .seq us.toArray } (.lst (ns.map V.int))) else none) (fun b => ?_) (Or.inl (Or.inr ⟨_, if_pos rfl⟩)) (fun b u y => ?_) fun _ => hk
    · by_cases hb : b = l
      · exact Or.inr ⟨hb, if_pos hb⟩
      · exact Or.inl (if_neg hb)
    · by_cases hb : b = l
      · have y' := (if_pos hb).symm.trans y
        cases y'
        subst hb
        exact ⟨hl, by rw [List.length_map]; exact many, us, _, rel, hl⟩
      · have y' := (if_neg hb).symm.trans y
        cases y'
end
/-- the goal that k_head leaves (case hc), from such a promise of the law's def -/
theorem walkG {l : PySem.W.OpenLaw} {n k : Nat} {q : Program} {loose : List Str} {XP : (Str → Option Value) → Heap → Prop} {YP : World → Heap → Prop} {d : DefRec} {K : Params → PySem.W.Frag} {sp : PySem.W.Frag → Sp} {x : Str}
    (hn : l.most = some n) (hn2 : n ≤ sizeLine) (hdf : d.params.defaults = []) (room : Room k callerA) (hY : ∀ (w : World) (h : Heap), YP w h → (K w.params).In h)
    (F : ∀ (w : World) (mg : Str → Option Value) (fa : Addr) (h : Heap), (K w.params).In h → h.Ns mainGlobals mg → mg d.name = some (.ref fa) →
      ∃ fd : FuncData, (∀ (s : Shared) (u : Value), BindsTo s fd ⟨[u], []⟩ [(x, u)]) ∧ ∀ base : Heap, (K w.params).In base → base.Ns mainGlobals mg → FnG l.prog w (K w.params) mg base k fa fd [x] (sp (K w.params)))
    (want : ∀ (K : PySem.W.Frag) (H : Hp) (a : Addr) (ns : List Int), ns.length ≤ n → SqL K H a (ns.map V.int) → sp K [.ref a] H (fun v _ => v = .bl true) E0) :
    PySem.W.WalkO q loose XP YP l.row.toRowW d [] (fun f vs => PySem.call f vs) := by
  refine Att.attach_call hn hdf fun w s₀ z mg mb fa o pm cd doc a vs ns G Y ho hd hcd hmg hobj hints hlen hg => ?_
  have kin := hY w _ Y
  obtain ⟨fd, bind, hF⟩ := F w mg fa _ kin G.T.g hmg
  exact enterG kin G.T.g G.T.b G.T.builtins G.T.nolimit hg hobj hints (Nat.le_trans hlen hn2) room hF bind fun H seq => want (K w.params) H a ns hlen seq
end G
set_option Elab.async false
set_option linter.all false
set_option maxRecDepth 100000
/-! points as pairs of ints: plain mathematics -/
namespace G

def ltP (x y : Pt) : Prop := x.1 * y.2 < y.1 * x.2
instance (x y : Pt) : Decidable (ltP x y) := inferInstanceAs (Decidable (_ < _))
/-- lowest terms -/
structure PtOk (x : Pt) : Prop where
  pos : 0 < x.2
  low : Int.gcd x.1 x.2 = 1
def Sz (b : Nat) (x : Pt) : Prop := x.1.natAbs < 2 ^ b ∧ x.2.natAbs < 2 ^ b
theorem Sz.mono {a b : Nat} {x : Pt} (h : Sz a x) (k : a ≤ b) : Sz b x :=
  ⟨Nat.lt_of_lt_of_le h.1 (Nat.pow_le_pow_right (by omega) k), Nat.lt_of_lt_of_le h.2 (Nat.pow_le_pow_right (by omega) k)⟩
def normP (p q : Int) : Pt := (p / (Int.gcd p q : Int), q / (Int.gcd p q : Int))

theorem gcd_pos' {p q : Int} (h : 0 < q) : 0 < (Int.gcd p q : Int) := by
  have : Int.gcd p q ≠ 0 := fun e => by
    have := (Int.gcd_eq_zero_iff.mp e).2
    omega
  omega
theorem norm_mul1 (p q : Int) : (normP p q).1 * (Int.gcd p q : Int) = p := Int.ediv_mul_cancel (Int.gcd_dvd_left ..)
theorem norm_mul2 (p q : Int) : (normP p q).2 * (Int.gcd p q : Int) = q := Int.ediv_mul_cancel (Int.gcd_dvd_right ..)
theorem norm_ok {p q : Int} (h : 0 < q) : PtOk (normP p q) := by
  have g := gcd_pos' (p := p) h
  constructor
  · have e := norm_mul2 p q
    by_cases c : 0 < (normP p q).2
    · exact c
    · have : (normP p q).2 * (Int.gcd p q : Int) ≤ 0 := Int.mul_nonpos_of_nonpos_of_nonneg (by omega) (by omega)
      omega
  · unfold normP
    exact Int.gcd_ediv_gcd_ediv_gcd (by omega)
theorem norm_id {x : Pt} (h : PtOk x) : normP x.1 x.2 = x := by
  unfold normP
  rw [h.low]
  simp
theorem ediv_abs_le (p : Int) {g : Int} (h : 0 < g) : (p / g).natAbs ≤ p.natAbs := Int.natAbs_ediv_le_natAbs p g
theorem norm_sz {p q : Int} {b : Nat} (h : 0 < q) (hp : p.natAbs < 2 ^ b) (hq : q.natAbs < 2 ^ b) : Sz b (normP p q) :=
  ⟨Nat.lt_of_le_of_lt (ediv_abs_le _ (gcd_pos' h)) hp, Nat.lt_of_le_of_lt (ediv_abs_le _ (gcd_pos' h)) hq⟩

theorem mul_pos_iff {a g : Int} (h : 0 < g) : 0 < a * g ↔ 0 < a := by
  constructor
  · intro k
    by_cases c : 0 < a
    · exact c
    · have := Int.mul_nonpos_of_nonpos_of_nonneg (show a ≤ 0 by omega) (show 0 ≤ g by omega)
      omega
  · intro k; exact Int.mul_pos k h
theorem mul_lt_iff {a b g : Int} (h : 0 < g) : a * g < b * g ↔ a < b := Int.mul_lt_mul_right h

/-- comparing with a point that is brought to lowest terms -/
theorem lt_norm_l {p q : Int} (h : 0 < q) (y : Pt) : ltP (normP p q) y ↔ p * y.2 < y.1 * q := by
  have g := gcd_pos' (p := p) h
  unfold ltP
  rw [← mul_lt_iff g, show (normP p q).1 * y.2 * (Int.gcd p q : Int) = ((normP p q).1 * (Int.gcd p q : Int)) * y.2 by rw [Int.mul_right_comm], norm_mul1, Int.mul_assoc, norm_mul2]
theorem lt_norm_r {p q : Int} (h : 0 < q) (y : Pt) : ltP y (normP p q) ↔ y.1 * q < p * y.2 := by
  have g := gcd_pos' (p := p) h
  unfold ltP
  rw [← mul_lt_iff g, Int.mul_assoc, norm_mul2, show (normP p q).1 * y.2 * (Int.gcd p q : Int) = ((normP p q).1 * (Int.gcd p q : Int)) * y.2 by rw [Int.mul_right_comm], norm_mul1]
theorem lt_irrefl (x : Pt) : ¬ ltP x x := by unfold ltP; omega
theorem lt_trans {x y z : Pt} (hx : 0 < x.2) (hy : 0 < y.2) (hz : 0 < z.2) (h1 : ltP x y) (h2 : ltP y z) : ltP x z := by
  unfold ltP at *
  have a : x.1 * y.2 * z.2 < y.1 * x.2 * z.2 := (mul_lt_iff hz).mpr h1
  have b : y.1 * z.2 * x.2 < z.1 * y.2 * x.2 := (mul_lt_iff hx).mpr h2
  have e1 : y.1 * x.2 * z.2 = y.1 * z.2 * x.2 := Int.mul_right_comm ..
  have c : x.1 * z.2 * y.2 < z.1 * x.2 * y.2 := by
    rw [Int.mul_right_comm x.1, Int.mul_right_comm z.1]; omega
  exact (mul_lt_iff hy).mp c
/-- two points in lowest terms are the same just if neither is less -/
theorem eq_of_mul {x y : Pt} (hx : PtOk x) (hy : PtOk y) (h : x.1 * y.2 = y.1 * x.2) : x = y := by
  have c : ∀ {x y : Pt}, PtOk x → PtOk y → x.1 * y.2 = y.1 * x.2 → x.2 ∣ y.2 := fun {x y} hx hy h => by
    have d : x.2 ∣ x.1 * y.2 := ⟨y.1, by rw [h, Int.mul_comm]⟩
    have d' := Int.dvd_gcd_mul_iff_dvd_mul.mpr d
    rw [Int.gcd_comm, hx.low] at d'
    simpa using d'
  have d1 := c hx hy h
  have d2 := c hy hx h.symm
  have e2 : x.2 = y.2 := Int.dvd_antisymm (by have := hx.pos; omega) (by have := hy.pos; omega) d1 d2
  have e1 : x.1 = y.1 := by
    rw [e2] at h
    exact Int.eq_of_mul_eq_mul_right (by have := hy.pos; omega) h
  exact Prod.ext e1 e2
theorem lt_tri {x y : Pt} (hx : PtOk x) (hy : PtOk y) : ltP x y ∨ x = y ∨ ltP y x := by
  by_cases a : ltP x y
  · exact .inl a
  · by_cases b : ltP y x
    · exact .inr (.inr b)
    · refine .inr (.inl (eq_of_mul hx hy ?_))
      unfold ltP at a b
      omega
theorem lt_asymm {x y : Pt} (h : ltP x y) : ¬ ltP y x := by unfold ltP at *; omega

/-- ascending rows of points -/
def Asc (l : List Pt) : Prop := l.Pairwise ltP

theorem abs_mul_lt {a b : Int} {m n : Nat} (ha : a.natAbs < 2 ^ m) (hb : b.natAbs < 2 ^ n) : (a * b).natAbs < 2 ^ (m + n) := by
  rw [Int.natAbs_mul, Nat.pow_add]
  exact Nat.mul_lt_mul'' ha hb
theorem abs_add_lt {a b : Int} {m : Nat} (ha : a.natAbs < 2 ^ m) (hb : b.natAbs < 2 ^ m) : (a + b).natAbs < 2 ^ (m + 1) := by
  rw [Nat.pow_succ]; omega
theorem abs_sub_lt {a b : Int} {m : Nat} (ha : a.natAbs < 2 ^ m) (hb : b.natAbs < 2 ^ m) : (a - b).natAbs < 2 ^ (m + 1) := by
  rw [Nat.pow_succ]; omega
theorem abs_mono {a : Int} {m n : Nat} (ha : a.natAbs < 2 ^ m) (h : m ≤ n) : a.natAbs < 2 ^ n := Nat.lt_of_lt_of_le ha (Nat.pow_le_pow_right (by omega) h)
end G
set_option Elab.async false
set_option linter.all false
set_option maxRecDepth 100000
/-! the rules that lean on the written part, with this part said -/
namespace G
open PySem L2
section
variable (K : PySem.W.Frag) {X : Cx} {tg l o e : Expr} {es : List Expr} {te tl : TE} {t : TA} {pos cpos apos : Pos} {name : Str} {T id : String} {r : V → List V → Hp → VK → Prop}
theorem k_ixT (h : X.K = K := by rfl) : IxR X (rIxT K) := h ▸ ix_tup
theorem k_ixL (h : X.K = K := by rfl) : IxR X (rIxL K) := h ▸ ix_list
theorem k_ixS (h : X.K = K := by rfl) : IxR X (rIx K) := h ▸ ix_seq
theorem k_slT (h : X.K = K := by rfl) : SlR X (rSlA K) := h ▸ sl_tupA
theorem k_slL (h : X.K = K := by rfl) : SlR X (rSlL K) := h ▸ sl_list
theorem k_inS (h : X.K = K := by rfl) : OpR X (compareOp .In) (rIn K false) := h ▸ op_in_seq
theorem k_notInS (h : X.K = K := by rfl) : OpR X (compareOp .NotIn) (rIn K true) := h ▸ op_notIn_seq
theorem k_eqD (hu : X.A.units + 64 < cLine) (h : X.K = K := by rfl) : OpR X (compareOp .Eq) (rEqD K) := h ▸ op_eqD hu
theorem k_neD (hu : X.A.units + 64 < cLine) (h : X.K = K := by rfl) : OpR X (compareOp .NotEq) (rNeD K) := h ▸ op_neD hu
theorem k_inD (hu : X.A.units + 65 < cLine) (h : X.K = K := by rfl) : OpR X (compareOp .In) (rInD K) := h ▸ op_inD hu
theorem k_notInD (hu : X.A.units + 65 < cLine) (h : X.K = K := by rfl) : OpR X (compareOp .NotIn) (rNotInD K) := h ▸ op_notInD hu
theorem k_catT (h : X.K = K := by rfl) : OpR X (binaryOp .Add) (rCatA K) := h ▸ op_catA
def rLenK (K : PySem.W.Frag) : List V → Hp → VK → Prop := fun xs H Q => ∃ p ys, xs = [.ref p] ∧ (SqL K H p ys ∨ SqT K H p ys) ∧ Q (.int ys.length) H
theorem c_len (h : X.K = K := by rfl) : CallR X (.builtin "len") (rLenK K) := h ▸ call_len_seq
def rTupK (K : PySem.W.Frag) : List V → Hp → VK → Prop := fun xs H Q => ∃ p ys, xs = [.ref p] ∧ ((SqL K H p ys ∧ ∀ l, H l = none → Q (.ref l) (upd H l (.tup ys))) ∨ (SqT K H p ys ∧ Q (.ref p) H))
theorem c_tuple (h : X.K = K := by rfl) : CallR X (.type "tuple") (rTupK K) := h ▸ call_tuple_of
def rLstK (K : PySem.W.Frag) : List V → Hp → VK → Prop := fun xs H Q => ∃ p ys, xs = [.ref p] ∧ (SqL K H p ys ∨ SqT K H p ys) ∧ ∀ l, H l = none → Q (.ref l) (upd H l (.lst ys))
theorem c_list (h : X.K = K := by rfl) : CallR X (.type "list") (rLstK K) := h ▸ call_list_of
theorem c_all (hc : X.calm = true) (h : X.K = K := by rfl) : CallR X (.builtin "all") (rAll K) := h ▸ cr_all hc
theorem c_any (hc : X.calm = true) (h : X.K = K := by rfl) : CallR X (.builtin "any") (rAny K) := h ▸ cr_any hc
theorem c_repr (hu : X.A.units + 65 < cLine) (nr : NoRepr X.A) (h : X.K = K := by rfl) : CallR X (.builtin "repr") (rReprD K) := h ▸ cr_reprD hu nr
theorem c_isi (h : X.K = K := by rfl) : CallR X (.builtin "isinstance") (rIsi K) := h ▸ call_isi
theorem i_list (hl : PE X l tl) (h : X.K = K := by rfl) : PI X tg l (iList K tl) := h ▸ pi_list hl
theorem i_tup (hl : PE X l tl) (h : X.K = K := by rfl) : PI X tg l (iTup K tl) := h ▸ pi_tup hl
theorem e_revL {k p1 p2 p3} (hl : PE X e te) (h : X.K = K := by rfl) : PE X (.Subscript e (.Slice none none (some (.UnaryOp .USub (.Constant (.int 1) k p1) p2)) p3) pos) (tRevL K te) := h ▸ pe_revL hl
theorem e_bm (q : PE X e (tBM X.K T r te t)) (h : X.K = K := by rfl) : PE X e (tBM K T r te t) := h ▸ q
theorem e_bm0 (q : PE X e (tBM0 X.K T r te)) (h : X.K = K := by rfl) : PE X e (tBM0 K T r te) := h ▸ q
theorem g_tup {n : Nat} {u : TGs} (q : PG X e (gTup X.K n u)) (h : X.K = K := by rfl) : PG X e (gTup K n u) := h ▸ q
end
def tTruK (K : PySem.W.Frag) (ta : TE) : TT := fun σ H Q => ta σ H fun x H' => ∃ k, TruV K x H' k ∧ Q k H'
theorem p_truth (K : PySem.W.Frag) {X : Cx} {a : Expr} {ta : TE} (ha : PE X a ta) (he : ∀ whole, isTrue a X.env whole = (do let v ← whole; standAt a.pos; holding [v] (truthy v))) (h : X.K = K := by rfl) : PT X a (tTruK K ta) := by
  subst h; exact pt_truth ha he
end G
set_option Elab.async false
set_option linter.all false
set_option maxRecDepth 100000
/-! for k, x in enumerate(t), t a tuple -/
namespace G
open PySem L2 PySem.Spec PyProof.Rows

abbrev tupIt (t : Addr) : Obj := { cls := .type "tuple_iterator", data := .fields #[.ref t, .int 0 0] }
abbrev enumAt (i : Addr) : Obj := { cls := .type "enumerate", data := .fields #[.none, .bool false, .ref i, rawInt 0, .none, .none] }
set_option maxHeartbeats 1000000 in
theorem meets_enum_tup (t : Addr) (things : Array Value) :
    Meets (Builtin.«enumerate.__new__» ⟨[.type "enumerate", .ref t], []⟩) (fun _ R z => z.heap.IsTuple t things ∧
      R (.ok (.ret (.ref (z.heap.push (tupIt t)).objs.size))) { z with heap := (z.heap.push (tupIt t)).push (enumAt z.heap.objs.size) }) :=
  .of_wp fun prog w A R z got => by
    obtain ⟨hp, g, d, tk, os⟩ := z
    obtain ⟨tup, got⟩ := got
    have hsub := sub_enumerate
    have q1 : ∀ {A' : Around} {E : Value → Shared → Prop} {Q : Value → Shared → Prop}, Q (.ref hp.objs.size) ⟨hp.push (tupIt t), g, d, tk, os⟩ → wpAny (model prog w) A' (pyIter (.ref t)) Q E ⟨hp, g, d, tk, os⟩ :=
      fun q => wpAny_pyIter_tuple tup q
    wp_walk using q1
    refine wpAny_stack_any fun st => wpAny_pure ?_
    split
    · rename_i c _ _ _ _ _
      cases (c == Value.type "enumerate")
      · wp_walk using q1
        exact ⟨_, rfl, got⟩
      · wp_walk using q1
        exact ⟨_, rfl, got⟩
    · wp_walk using q1
      exact ⟨_, rfl, got⟩
section
variable {prog : Program} {w : World} {A : Around} {E : Value → Shared → Prop} {z : Shared}
theorem call_enum_tup {t : Addr} {things : Array Value} {Q : Value → Shared → Prop} (tup : z.heap.IsTuple t things)
    (next : ∀ h', IsEnum h' (z.heap.objs.size + 1) z.heap.objs.size 0 .none → h'.IsTupleIter z.heap.objs.size t 0 → (∀ b o, z.heap.get? b = some o → h'.get? b = some o) → Q (.ref (z.heap.objs.size + 1)) { z with heap := h' }) :
    wpAny (model prog w) A (call (.type "enumerate") [.ref t]) Q E z := by
  refine callType_new F.called_enumerate (by decide) (F.typeCall_enumerate_1 _) (F.newCall_enumerate_1 _) (fun o => F.args_object_init_2 o _) F.entry_enumerate_new (meets_enum_tup t things) ⟨tup, ?_⟩
  have size1 : (z.heap.push (tupIt t)).objs.size = z.heap.objs.size + 1 := Heap.size_push ..
  have made : ((z.heap.push (tupIt t)).push (enumAt z.heap.objs.size)).get? (z.heap.objs.size + 1) = some (enumAt z.heap.objs.size) := by
    have q := Heap.get?_push_size (z.heap.push (tupIt t)) (o := enumAt z.heap.objs.size) rfl
    rw [size1] at q
    exact q
  show _ ∧ _
  rw [size1]
  exact ⟨⟨_, made, rfl⟩, next _ made ⟨_, Heap.get?_push_of_some _ (Heap.get?_push_size _ rfl), rfl, rfl⟩ fun b o x => Heap.get?_push_of_some _ (Heap.get?_push_of_some _ x)⟩
end
/-- the tuple at a, each item in a new pair with its number -/
def ItU (K : PySem.W.Frag) (a : Addr) : It where
  go := fun i H => ∃ (xs : List V) (x : V), SqT K H a xs ∧ xs[i]? = some x
  yld := fun i H v H' => ∃ T x, v = .ref T ∧ H T = none ∧ H' = upd H T (.tup [.int (i : Nat), x]) ∧ ∀ xs, SqT K H a xs → xs[i]? = some x
  stop := fun i H => ∃ xs : List V, SqT K H a xs ∧ xs.length = i
theorem enum_ne {h : Heap} {e it a : Addr} {c : Int} {old : Value} {things : Array Value} (he : IsEnum h e it c old) (ha : h.IsTuple a things) : e ≠ a := by
  rintro rfl
  obtain ⟨o, ho, hc, _⟩ := ha
  have he' : h.get? e = some _ := he
  rw [he'] at ho
  cases ho
  exact absurd hc (by simp)
theorem tupit_ne {h : Heap} {it a b : Addr} {i : Nat} {things : Array Value} (hi : h.IsTupleIter it b i) (ha : h.IsTuple a things) : a ≠ it := by
  rintro rfl
  obtain ⟨o, ho, hc, _⟩ := ha
  obtain ⟨o', ho', hc', _⟩ := hi
  rw [ho'] at ho
  cases ho
  rw [hc'] at hc
  exact absurd hc (by simp)
theorem turn_enumT {P : Program} {w : World} {K : PySem.W.Frag} {elts : List Expr} {kk : Nat} {tpos : Pos} (a e it : Addr) :
    Turn P w K (.Tuple elts kk tpos) (ItU K a) [e, it] e (fun i h => (∃ old, IsEnum h e it ((i : Nat) : Int) old) ∧ h.IsTupleIter it a i ∧ e ≠ it) where
  mem := by simp
  obj := by
    rintro i h ⟨⟨old, he⟩, ⟨o, ho, _, hd⟩, _⟩ b hb
    rcases (by simpa using hb : b = e ∨ b = it) with rfl | rfl
    · exact ⟨_, he, fun v q => nomatch q⟩
    · exact ⟨o, ho, fun v q => by rw [hd] at q; cases q⟩
  keep := by
    rintro i h h' ⟨⟨old, he⟩, hi, ne⟩ k
    exact ⟨⟨old, k e (by simp) _ he⟩, hi.at fun o q => k it (by simp) o q, ne⟩
  item := by
    intro X hP hw hK calm i pins z σ H E I fp st go
    subst hP hw hK
    obtain ⟨⟨old, he⟩, hi, ne⟩ := st
    obtain ⟨xs, x, hq, hx⟩ := go
    obtain ⟨its, rel, tup, _⟩ := I.tuple hq
    obtain ⟨u, hu, ru⟩ := rel.get hx
    have hlt : i < its.toArray.size := by
      have := (List.getElem?_eq_some_iff.mp hu).1
      simpa using this
    have ea := enum_ne he tup
    have low1 : e < z.heap.objs.size := Heap.lt_size he
    have low2 : it < z.heap.objs.size := by obtain ⟨_, q, _⟩ := hi; exact Heap.lt_size q
    have D := Draws.tuple (prog := X.prog) (w := X.w) (A := X.A.in1) (I.ok.hd calm) it a (tupit_ne hi tup) its.toArray
    refine wpAny_pyNext_enum_itemC D he ⟨hi, tup⟩ hlt ne (by simp [ne, ea]) fun y h' tk hy ho hst hT hsz kept => ?_
    have hy' : y = u := by
      have q1 : its.toArray[i]? = some u := by simpa using hu
      rw [q1] at hy
      exact (Option.some.inj hy).symm
    subst hy'
    refine ⟨_, rfl, wpAny_letOwnedTupleGo_enum (s := { z with heap := h', toks := tk + 1 }) ho fun h'' he' sb => ?_⟩
    have hT2 : h''.get? z.heap.objs.size = some { cls := .type "tuple", data := .seq #[.int i tk, y] } := (sb.2 _ (Nat.ne_of_gt low1)).trans hT
    have pair : ObjOk X.prog X.w (upd H z.heap.objs.size (.tup [.int (i : Nat), x])) h'' z.heap.objs.size (.tup [.int (i : Nat), x]) :=
      ⟨by show 2 ≤ sizeLine; decide, [.int i tk, y], .cons ⟨_, rfl⟩ (.cons ru .nil), ⟨_, hT2, rfl, _, rfl⟩⟩
    have J : Inv X pins σ (upd H z.heap.objs.size (.tup [.int (i : Nat), x])) { z with heap := h'', toks := tk + 1 } := by
      refine I.turnedNew (ch := [e, it]) (fun b o hb q => ?_) fp (Nat.le_refl _) pair
      have b1 : b ≠ e := fun y => hb (by simp [y])
      have b2 : b ≠ it := fun y => hb (by simp [y])
      exact (sb.2 b b1).trans (kept b o b1 b2 q)
    refine ⟨.ref z.heap.objs.size, _, J, rfl, ⟨_, x, rfl, I.hok.fresh (Nat.le_refl _), rfl, fun ys hys => by rw [I.tuple_inj hys hq]; exact hx⟩, ⟨⟨y, ?_⟩, hst.1.at fun o q => (sb.2 it (Ne.symm ne)).trans q, ne⟩, fun b hb => ?_⟩
    · rw [show ((i + 1 : Nat) : Int) = (i : Int) + 1 by omega]
      exact he'
    · have hb' : b < z.heap.objs.size := by
        rcases (by simpa using hb : b = e ∨ b = it) with rfl | rfl
        · exact low1
        · exact low2
      rw [upd_ne (Nat.ne_of_lt hb')]
      exact (fp b hb).1
  done := by
    intro X hP hw hK calm i pins z σ H E I fp st stop
    subst hP hw hK
    obtain ⟨⟨old, he⟩, hi, ne⟩ := st
    obtain ⟨xs, hq, hx⟩ := stop
    obtain ⟨its, rel, tup, _⟩ := I.tuple hq
    obtain ⟨f0, f1, _, f3, f4, f5⟩ := fp it (by simp)
    have many : its.toArray.size = i := by
      have := rel.length
      simpa [← this] using hx
    have D := Draws.tuple (prog := X.prog) (w := X.w) (A := X.A.in1) (I.ok.hd calm) it a (tupit_ne hi tup) its.toArray
    have st : z.heap.IsTupleIter it a its.toArray.size := by rw [many]; exact hi
    exact wpAny_pyNext_enum_endD D he ⟨st, tup⟩ fun h' eb => ⟨rfl, I.turned (t' := z.toks) (fun b o hb q => eb b o hb q) f0 f1 f3 f4 f5⟩
  self := by
    rintro A i z Q E ⟨⟨_, he⟩, _⟩ q
    exact wpAny_pyIter_enum he q

def iEnumT (K : PySem.W.Frag) (ta : TA) : TI := fun σ H R => ta σ H fun vs H1 => ∃ a xs, vs = [.ref a] ∧ SqT K H1 a xs ∧ R (ItU K a) H1
theorem i_enumT (K : PySem.W.Frag) {X : Cx} {e : Expr} {ta : TA} {p pos tpos : Pos} {elts : List Expr} {kk : Nat} (hg : Gl X "enumerate") (hm : X.mg "enumerate" = none) (ha : PA X [e] ta) (hs : starEach [e] X.env = [(false, eval e X.env)] := by rfl)
    (hK : X.K = K := by rfl) : PI X (.Tuple elts kk tpos) (.Call (.Name "enumerate" p) [e] [] pos) (iEnumT K ta) := by
  subst hK
  constructor
  intro pins z σ H R I want
  refine Call_ (ld_blt I hg hm boot_enumerate (callWith_type1 (thn (ha.run pos pins z σ H _ I want) fun us z1 ⟨vs, H1, I1, rel, q1⟩ => ?_) hs rfl))
  obtain ⟨a, xs, rfl, hq, q⟩ := q1
  cases rel with
  | cons r rr =>
    cases rr
    cases r
    obtain ⟨its, _, tup, _⟩ := I1.tuple hq
    refine call_enum_tup tup fun h' he hi kept => wpAny_pyIter_enum he ?_
    have I2 : Inv X pins σ H1 { z1 with heap := h' } := I1.kept (t' := z1.toks) kept
    refine ⟨z1.heap.objs.size + 1, [z1.heap.objs.size + 1, z1.heap.objs.size], _, _, H1, rfl, I2, turn_enumT a (z1.heap.objs.size + 1) z1.heap.objs.size, ⟨⟨.none, he⟩, hi, Nat.succ_ne_self _⟩, fun b hb => ?_, q⟩
    have low : z1.heap.objs.size ≤ b := by
      rcases (by simpa using hb : b = z1.heap.objs.size + 1 ∨ b = z1.heap.objs.size) with rfl | rfl
      · exact Nat.le_succ _
      · exact Nat.le_refl _
    exact I1.fpOk low (I1.hok.fresh low)
theorem for_enumT {K : PySem.W.Frag} {a : Addr} {xs : List V} {g : TG} {tb : TS} {D : Ends} {σ : L2.St} {H : Hp} (Pv : Nat → L2.St → Hp → Prop) (h0 : Pv 0 σ H) (hl : ∀ i σ H, i ≤ xs.length → Pv i σ H → SqT K H a xs)
    (hs : ∀ i x T σ H, xs[i]? = some x → Pv i σ H → H T = none → g (.ref T) σ (upd H T (.tup [.int (i : Nat), x])) fun σ2 H2 => tb { D with nx := Pv (i + 1), ct := Pv (i + 1), bk := D.nx } σ2 H2) (hd : ∀ σ H, Pv xs.length σ H → D.nx σ H) :
    ∃ W : Nat → Nat → L2.St → Hp → Prop, (∃ m, W 0 m σ H) ∧ ∀ i m σ H, W i m σ H →
      ((ItU K a).stop i H ∧ D.nx σ H) ∨ ((ItU K a).go i H ∧ ∃ N : L2.St → Hp → Prop, (∀ σ' H', N σ' H' → ∃ m', m' < m ∧ W (i + 1) m' σ' H') ∧ ∀ x H', (ItU K a).yld i H x H' → g x σ H' fun σ2 H2 => tb { D with nx := N, ct := N, bk := D.nx } σ2 H2) := by
  refine ⟨fun i m σ H => m = xs.length - i ∧ i ≤ xs.length ∧ Pv i σ H, ⟨xs.length, by simp, Nat.zero_le _, h0⟩, ?_⟩
  rintro i m σ H ⟨rfl, hi, p⟩
  have q := hl i σ H hi p
  by_cases c : i < xs.length
  · refine .inr ⟨⟨xs, xs[i], q, by simp [c]⟩, Pv (i + 1), fun σ' H' p' => ⟨xs.length - (i + 1), by omega, rfl, c, p'⟩, fun x H' y => ?_⟩
    obtain ⟨T, u, rfl, hT, rfl, hu⟩ := y
    exact hs i u T σ H (hu xs q) p hT
  · have e : i = xs.length := by omega
    subst e
    exact .inl ⟨⟨xs, q, rfl⟩, hd σ H p⟩
end G
set_option Elab.async false
set_option linter.all false
set_option maxRecDepth 100000
/-! small helps for readings -/
namespace G
open PySem L2
theorem i_enum (K : PySem.W.Frag) {X : Cx} {tg e : Expr} {ta : TA} (q : PI X tg e (iEnum X.K ta)) (h : X.K = K := by rfl) : PI X tg e (iEnum K ta) := h ▸ q
theorem i_zip (K : PySem.W.Frag) {X : Cx} {tg e : Expr} {ta : TA} (q : PI X tg e (iZip X.K ta)) (h : X.K = K := by rfl) : PI X tg e (iZip K ta) := h ▸ q
theorem dps_bools {K : PySem.W.Frag} {H : Hp} : ∀ {vs : List V} {bs : List Bool}, DpAll K H vs (bs.map PyData.bool) → vs = bs.map V.bl
  | _, [], h => by cases h; rfl
  | _, b :: bs, h => by
    cases h with
    | cons h1 h2 => cases h1; rw [dps_bools h2]; rfl
theorem tup_bools (bs : List Bool) : tupDs (bs.map PyData.bool) = true := tupDs_all.mpr fun d h => by
  obtain ⟨b, _, rfl⟩ := List.mem_map.mp h; rfl
/-- t[lo:hi] of a tuple -/
theorem slT {K : PySem.W.Frag} {H : Hp} {a : Addr} {xs : List V} {lo hi : Nat} {Q : VK} (h : SqT K H a xs)
    (q : ∀ b H', Kp M0 H H' → SqT K H' b ((xs.drop lo).take (hi - lo)) → Q (.ref b) H') : rSlA K (.ref a) (some (lo : Int)) (some (hi : Int)) H Q := by
  refine ⟨a, xs, rfl, h, fun c => ?_, fun _ p hp => ?_⟩
  · rw [HT.sIx_nat, HT.sIx_nat] at c
    refine q a H (Kp.refl H) ?_
    have e : (xs.drop lo).take (hi - lo) = xs := by
      by_cases z : xs.length = 0
      · rw [List.length_eq_zero_iff.mp z]; simp
      · have : lo = 0 := by omega
        subst this
        rw [List.drop_zero]
        exact List.take_of_length_le (by omega)
    rw [e]; exact h
  · refine q p _ (Kp.new hp) ?_
    have e : cutV xs (some (lo : Int)) (some (hi : Int)) = (xs.drop lo).take (hi - lo) := by
      unfold cutV
      rw [HT.sIx_nat, HT.sIx_nat]
      by_cases z : lo ≤ xs.length
      · rw [show min lo xs.length = lo by omega]
        by_cases y : hi ≤ xs.length
        · rw [show min hi xs.length = hi by omega]
        · rw [show min hi xs.length = xs.length by omega, List.take_of_length_le (by rw [List.length_drop]; omega), List.take_of_length_le (by rw [List.length_drop]; omega)]
      · rw [show min lo xs.length = xs.length by omega, List.drop_of_length_le (Nat.le_refl _), List.drop_of_length_le (by omega)]; simp
    rw [e]
    exact Or.inl (Or.inl upd_same)
theorem slL {K : PySem.W.Frag} {H : Hp} {a : Addr} {xs : List V} {lo hi : Option Int} {Q : VK} {l h : Nat} (hs : SqL K H a xs) (e1 : HT.sIx xs.length 0 lo = l) (e2 : HT.sIx xs.length xs.length hi = h)
    (q : ∀ p, H p = none → Q (.ref p) (upd H p (.lst ((xs.drop l).take (h - l))))) : rSlL K (.ref a) lo hi H Q := by
  refine ⟨a, xs, rfl, hs, fun p hp => ?_⟩
  have z := q p hp
  rw [← e1, ← e2] at z
  exact z
section
variable {K : PySem.W.Frag} {s : Nat} {te : TE} {σ : L2.St} {H1 : Hp} {Q : VK}
theorem lcRi {j : Int} {n : Nat} (e : j.toNat = n) (h1 : -1000000 ≤ j) (h2 : j ≤ 1000000) (dd : Nat → PyData) (ht : ∀ i, i < n → tupD (dd i) = true)
    (hs : ∀ i H, i < n → Kp M0 H1 H → ∀ Q' : VK, (∀ y H4, Kp M0 H H4 → Dp K H4 y (dd i) → Q' y H4) → te ((σ.set s none).set s (some (.int (i : Nat)))) H Q')
    (hq : ∀ D H vs, H1 D = none → Kp M0 H1 H → H D = some (.lst vs) → DpAll K H vs ((List.range n).map dd) → Q (.ref D) H) : LcR s tYes te σ Q [.int j] H1 := by
  refine ⟨j, rfl, by omega, by omega, fun D hD => ?_⟩
  rw [e]
  exact lcp_range (K := K) dd hD (by rw [sizeLine_eq]; omega) ht (fun i H hi k Q' q => by
    have z := hs i H hi k Q' q
    rw [show (0 : Int) + (i : Nat) = (i : Nat) by omega]
    exact z) fun H vs => hq D H vs hD
end
theorem SqL.keep {K : PySem.W.Frag} {H H' : Hp} {a : Addr} {xs : List V} (h : SqL K H a xs) (k : Kp M0 H H') : SqL K H' a xs := k.same.seq h
theorem none_back {M : Addr → Prop} {H H' : Hp} {p : Addr} (k : Kp M H H') (h : H' p = none) (m : ¬ M p) : H p = none := by
  cases e : H p with
  | none => rfl
  | some o => rw [k p o e m] at h; cases h
theorem none0 {H H' : Hp} {p : Addr} (k : Kp M0 H H') (h : H' p = none) : H p = none := none_back k h (fun z => z)
theorem sqT_mk {K : PySem.W.Frag} {H : Hp} {a : Addr} {xs : List V} (h : H a = some (.tup xs)) : SqT K H a xs := Or.inl (Or.inl h)
theorem sqL_mk {K : PySem.W.Frag} {H : Hp} {a : Addr} {xs : List V} (h : H a = some (.lst xs)) : SqL K H a xs := Or.inl (Or.inl h)
theorem hu65_of {A : Around} {k : Nat} (hr : Room k A) : A.units + 65 < cLine := by have := hr.un; omega
theorem for_enumL {K : PySem.W.Frag} {a : Addr} {xs : List V} {g : TG} {tb : TS} {D : Ends} {σ : L2.St} {H : Hp} (Pv : Nat → L2.St → Hp → Prop) (h0 : Pv 0 σ H) (hl : ∀ i σ H, i ≤ xs.length → Pv i σ H → SqL K H a xs)
    (hs : ∀ i x T σ H, xs[i]? = some x → Pv i σ H → H T = none → g (.ref T) σ (upd H T (.tup [.int (i : Nat), x])) fun σ2 H2 => tb { D with nx := Pv (i + 1), ct := Pv (i + 1), bk := D.nx } σ2 H2) (hd : ∀ σ H, Pv xs.length σ H → D.nx σ H) :
    ∃ W : Nat → Nat → L2.St → Hp → Prop, (∃ m, W 0 m σ H) ∧ ∀ i m σ H, W i m σ H →
      ((Ite K a).stop i H ∧ D.nx σ H) ∨ ((Ite K a).go i H ∧ ∃ N : L2.St → Hp → Prop, (∀ σ' H', N σ' H' → ∃ m', m' < m ∧ W (i + 1) m' σ' H') ∧ ∀ x H', (Ite K a).yld i H x H' → g x σ H' fun σ2 H2 => tb { D with nx := N, ct := N, bk := D.nx } σ2 H2) := by
  refine ⟨fun i m σ H => m = xs.length - i ∧ i ≤ xs.length ∧ Pv i σ H, ⟨xs.length, by simp, Nat.zero_le _, h0⟩, ?_⟩
  rintro i m σ H ⟨rfl, hi, p⟩
  have q := hl i σ H hi p
  by_cases c : i < xs.length
  · refine .inr ⟨⟨xs, xs[i], q, by simp [c]⟩, Pv (i + 1), fun σ' H' p' => ⟨xs.length - (i + 1), by omega, rfl, c, p'⟩, fun x H' y => ?_⟩
    obtain ⟨T, u, rfl, hT, rfl, hu⟩ := y
    exact hs i u T σ H (hu xs q) p hT
  · have e : i = xs.length := by omega
    subst e
    exact .inl ⟨⟨xs, q, Nat.le_refl _⟩, hd σ H p⟩
/-! loops whose source has been worked out -/
section
variable {K : PySem.W.Frag} {g : TG} {tb : TS} {D : Ends} {σ : L2.St} {H : Hp}
def ForIt (J : It) (g : TG) (tb : TS) (D : Ends) (σ : L2.St) (H1 : Hp) : Prop := ∃ W : Nat → Nat → L2.St → Hp → Prop, (∃ m, W 0 m σ H1) ∧ ∀ i m σ H, W i m σ H →
  (J.stop i H ∧ D.nx σ H) ∨ (J.go i H ∧ ∃ N : L2.St → Hp → Prop, (∀ σ' H', N σ' H' → ∃ m', m' < m ∧ W (i + 1) m' σ' H') ∧ ∀ x H', J.yld i H x H' → g x σ H' fun σ2 H2 => tb { D with nx := N, ct := N, bk := D.nx } σ2 H2)
def LfR (g : TG) (tb : TS) (D : Ends) (σ : L2.St) (vs : List V) (H1 : Hp) : Prop := ∃ j : Int, vs = [.int j] ∧ -(2 ^ 62) ≤ j ∧ j < 2 ^ 62 ∧ ForIt (Itr 0 j.toNat) g tb D σ H1
def LfL (K : PySem.W.Frag) (g : TG) (tb : TS) (D : Ends) (σ : L2.St) (x : V) (H1 : Hp) : Prop := ∃ a, x = .ref a ∧ (∃ xs, SqL K H1 a xs) ∧ ForIt (Itl K a) g tb D σ H1
def LfT (K : PySem.W.Frag) (g : TG) (tb : TS) (D : Ends) (σ : L2.St) (x : V) (H1 : Hp) : Prop := ∃ a, x = .ref a ∧ (∃ xs, SqT K H1 a xs) ∧ ForIt (Itt K a) g tb D σ H1
theorem tforR {ta : TA} (h : ta σ H (LfR g tb D σ)) : tFor (iRng1 ta) g tb D σ H := h
theorem tforL {tl : TE} (h : tl σ H (LfL K g tb D σ)) : tFor (iList K tl) g tb D σ H := h
theorem tforT {tl : TE} (h : tl σ H (LfT K g tb D σ)) : tFor (iTup K tl) g tb D σ H := h
end
end G
set_option Elab.async false
set_option linter.all false
set_option maxRecDepth 100000
namespace G
open PySem L2
def top (i : Nat) : Stmt := PySem.Challenge.pw_gapwise_k02_gaps_and_spread.main.body.getD i (.Pass ⟨0, 0, 0, 0⟩)
structure DefAt (K : PySem.W.Frag) (mg : Str → Option Value) (x : Str) (st : Stmt) (ps : List Str) (f : Addr) (fd : FuncData) : Prop where
  F : Fun K x x st f fd
  g : mg x = some (.ref f)
  b : Binds K fd ps []
abbrev s_copied : Stmt := top 2
abbrev N_copied : List Str := ["value", "frames", "whole", "parts", "found", "part", "made"]
abbrev P_copied : List Str := ["value"]
theorem sc_copied : FnScope N_copied P_copied (defScope s_copied) := ⟨rfl, rfl, rfl, by decide +kernel, rfl, by decide +kernel, by decide +kernel⟩
abbrev s_parts_in : Stmt := top 3
abbrev N_parts_in : List Str := ["value", "key"]
abbrev P_parts_in : List Str := ["value"]
theorem sc_parts_in : FnScope N_parts_in P_parts_in (defScope s_parts_in) := ⟨rfl, rfl, rfl, by decide +kernel, rfl, by decide +kernel, by decide +kernel⟩
abbrev s_put_together : Stmt := top 4
abbrev N_put_together : List Str := ["whole", "parts", "names", "at"]
abbrev P_put_together : List Str := ["whole", "parts"]
theorem sc_put_together : FnScope N_put_together P_put_together (defScope s_put_together) := ⟨rfl, rfl, rfl, by decide +kernel, rfl, by decide +kernel, by decide +kernel⟩
abbrev s_make_point : Stmt := top 8
abbrev N_make_point : List Str := ["p", "q", "common"]
abbrev P_make_point : List Str := ["p", "q"]
theorem sc_make_point : FnScope N_make_point P_make_point (defScope s_make_point) := ⟨rfl, rfl, rfl, by decide +kernel, rfl, by decide +kernel, by decide +kernel⟩
abbrev s_is_before : Stmt := top 9
abbrev N_is_before : List Str := ["one", "other"]
abbrev P_is_before : List Str := ["one", "other"]
theorem sc_is_before : FnScope N_is_before P_is_before (defScope s_is_before) := ⟨rfl, rfl, rfl, by decide +kernel, rfl, by decide +kernel, by decide +kernel⟩
abbrev s_code_of : Stmt := top 10
abbrev N_code_of : List Str := ["points", "point", "low", "high", "middle"]
abbrev P_code_of : List Str := ["points", "point"]
theorem sc_code_of : FnScope N_code_of P_code_of (defScope s_code_of) := ⟨rfl, rfl, rfl, by decide +kernel, rfl, by decide +kernel, by decide +kernel⟩
abbrev s_gap_of : Stmt := top 11
abbrev N_gap_of : List Str := ["points", "point", "code"]
abbrev P_gap_of : List Str := ["points", "point"]
theorem sc_gap_of : FnScope N_gap_of P_gap_of (defScope s_gap_of) := ⟨rfl, rfl, rfl, by decide +kernel, rfl, by decide +kernel, by decide +kernel⟩
abbrev s_spread : Stmt := top 12
abbrev N_spread : List Str := ["points", "gap", "n", "i", "p", "q"]
abbrev P_spread : List Str := ["points", "gap", "n"]
theorem sc_spread : FnScope N_spread P_spread (defScope s_spread) := ⟨rfl, rfl, rfl, by decide +kernel, rfl, by decide +kernel, by decide +kernel⟩
abbrev s_between : Stmt := top 13
abbrev N_between : List Str := ["low", "high", "part", "parts", "start", "way"]
abbrev P_between : List Str := ["low", "high", "part", "parts"]
theorem sc_between : FnScope N_between P_between (defScope s_between) := ⟨rfl, rfl, rfl, by decide +kernel, rfl, by decide +kernel, by decide +kernel⟩
abbrev s__law_open_cells : Stmt := top 15
abbrev N__law_open_cells : List Str := ["script", "mixed", "cell", "cells"]
abbrev P__law_open_cells : List Str := ["script"]
theorem sc__law_open_cells : FnScope N__law_open_cells P__law_open_cells (defScope s__law_open_cells) := ⟨rfl, rfl, rfl, by decide +kernel, rfl, by decide +kernel, by decide +kernel⟩
abbrev s__law_pick : Stmt := top 16
abbrev N__law_pick : List Str := ["source", "most", "cells", "left", "turn", "mixed"]
abbrev P__law_pick : List Str := ["source", "most"]
theorem sc__law_pick : FnScope N__law_pick P__law_pick (defScope s__law_pick) := ⟨rfl, rfl, rfl, by decide +kernel, rfl, by decide +kernel, by decide +kernel⟩
abbrev s__law_point : Stmt := top 17
abbrev N__law_point : List Str := ["p", "q", "a", "b"]
abbrev P__law_point : List Str := ["p", "q"]
theorem sc__law_point : FnScope N__law_point P__law_point (defScope s__law_point) := ⟨rfl, rfl, rfl, by decide +kernel, rfl, by decide +kernel, by decide +kernel⟩
abbrev s__law_less : Stmt := top 18
abbrev N__law_less : List Str := ["one", "other"]
abbrev P__law_less : List Str := ["one", "other"]
theorem sc__law_less : FnScope N__law_less P__law_less (defScope s__law_less) := ⟨rfl, rfl, rfl, by decide +kernel, rfl, by decide +kernel, by decide +kernel⟩
abbrev s__law_spread : Stmt := top 19
abbrev N__law_spread : List Str := ["points", "gap", "n", "i", "p", "q", "a", "b", "c", "d"]
abbrev P__law_spread : List Str := ["points", "gap", "n"]
theorem sc__law_spread : FnScope N__law_spread P__law_spread (defScope s__law_spread) := ⟨rfl, rfl, rfl, by decide +kernel, rfl, by decide +kernel, by decide +kernel⟩
abbrev s__law_draw_points : Stmt := top 20
abbrev N__law_draw_points : List Str := ["source", "many", "found", "here", "lap", "q"]
abbrev P__law_draw_points : List Str := ["source", "many"]
theorem sc__law_draw_points : FnScope N__law_draw_points P__law_draw_points (defScope s__law_draw_points) := ⟨rfl, rfl, rfl, by decide +kernel, rfl, by decide +kernel, by decide +kernel⟩
abbrev s__law_apart : Stmt := top 21
abbrev N__law_apart : List Str := ["one", "other"]
abbrev P__law_apart : List Str := ["one", "other"]
theorem sc__law_apart : FnScope N__law_apart P__law_apart (defScope s__law_apart) := ⟨rfl, rfl, rfl, by decide +kernel, rfl, by decide +kernel, by decide +kernel⟩
abbrev s__law_is_even : Stmt := top 22
abbrev N__law_is_even : List Str := ["points", "gap", "found", "low", "row", "k", "steps", "step"]
abbrev P__law_is_even : List Str := ["points", "gap", "found"]
theorem sc__law_is_even : FnScope N__law_is_even P__law_is_even (defScope s__law_is_even) := ⟨rfl, rfl, rfl, by decide +kernel, rfl, by decide +kernel, by decide +kernel⟩
abbrev s__law_gap_due : Stmt := top 23
abbrev N__law_gap_due : List Str := ["points", "point", "place", "one"]
abbrev P__law_gap_due : List Str := ["points", "point"]
theorem sc__law_gap_due : FnScope N__law_gap_due P__law_gap_due (defScope s__law_gap_due) := ⟨rfl, rfl, rfl, by decide +kernel, rfl, by decide +kernel, by decide +kernel⟩
abbrev s__law_near_right : Stmt := top 24
abbrev N__law_near_right : List Str := ["source", "q", "some", "place", "one", "others"]
abbrev P__law_near_right : List Str := ["source"]
theorem sc__law_near_right : FnScope N__law_near_right P__law_near_right (defScope s__law_near_right) := ⟨rfl, rfl, rfl, by decide +kernel, rfl, by decide +kernel, by decide +kernel⟩
abbrev s_law : Stmt := top 25
abbrev N_law : List Str := ["script", "source", "lap", "points", "gap", "n", "found", "one"]
abbrev P_law : List Str := ["script"]
theorem sc_law : FnScope N_law P_law (defScope s_law) := ⟨rfl, rfl, rfl, by decide +kernel, rfl, by decide +kernel, by decide +kernel⟩
structure Txt (mg : Str → Option Value) : Prop where
  b_abs : mg "abs" = none
  b_int : mg "int" = none
  b_len : mg "len" = none
  b_range : mg "range" = none
  b_all : mg "all" = none
  b_list : mg "list" = none
  b_tuple : mg "tuple" = none
  b_isinstance : mg "isinstance" = none
  b_repr : mg "repr" = none
  b_enumerate : mg "enumerate" = none
  b_dict : mg "dict" = none
  i_gcd : mg "gcd" = some (.builtin "math.gcd")
structure Ds (K : PySem.W.Frag) (mg : Str → Option Value) where
  T : Txt mg
  f_copied : Addr
  fd_copied : FuncData
  D_copied : DefAt K mg "copied" s_copied P_copied f_copied fd_copied
  f_parts_in : Addr
  fd_parts_in : FuncData
  D_parts_in : DefAt K mg "parts_in" s_parts_in P_parts_in f_parts_in fd_parts_in
  f_put_together : Addr
  fd_put_together : FuncData
  D_put_together : DefAt K mg "put_together" s_put_together P_put_together f_put_together fd_put_together
  f_make_point : Addr
  fd_make_point : FuncData
  D_make_point : DefAt K mg "make_point" s_make_point P_make_point f_make_point fd_make_point
  f_is_before : Addr
  fd_is_before : FuncData
  D_is_before : DefAt K mg "is_before" s_is_before P_is_before f_is_before fd_is_before
  f_code_of : Addr
  fd_code_of : FuncData
  D_code_of : DefAt K mg "code_of" s_code_of P_code_of f_code_of fd_code_of
  f_gap_of : Addr
  fd_gap_of : FuncData
  D_gap_of : DefAt K mg "gap_of" s_gap_of P_gap_of f_gap_of fd_gap_of
  f_spread : Addr
  fd_spread : FuncData
  D_spread : DefAt K mg "spread" s_spread P_spread f_spread fd_spread
  f_between : Addr
  fd_between : FuncData
  D_between : DefAt K mg "between" s_between P_between f_between fd_between
  f__law_open_cells : Addr
  fd__law_open_cells : FuncData
  D__law_open_cells : DefAt K mg "_law_open_cells" s__law_open_cells P__law_open_cells f__law_open_cells fd__law_open_cells
  f__law_pick : Addr
  fd__law_pick : FuncData
  D__law_pick : DefAt K mg "_law_pick" s__law_pick P__law_pick f__law_pick fd__law_pick
  f__law_point : Addr
  fd__law_point : FuncData
  D__law_point : DefAt K mg "_law_point" s__law_point P__law_point f__law_point fd__law_point
  f__law_less : Addr
  fd__law_less : FuncData
  D__law_less : DefAt K mg "_law_less" s__law_less P__law_less f__law_less fd__law_less
  f__law_spread : Addr
  fd__law_spread : FuncData
  D__law_spread : DefAt K mg "_law_spread" s__law_spread P__law_spread f__law_spread fd__law_spread
  f__law_draw_points : Addr
  fd__law_draw_points : FuncData
  D__law_draw_points : DefAt K mg "_law_draw_points" s__law_draw_points P__law_draw_points f__law_draw_points fd__law_draw_points
  f__law_apart : Addr
  fd__law_apart : FuncData
  D__law_apart : DefAt K mg "_law_apart" s__law_apart P__law_apart f__law_apart fd__law_apart
  f__law_is_even : Addr
  fd__law_is_even : FuncData
  D__law_is_even : DefAt K mg "_law_is_even" s__law_is_even P__law_is_even f__law_is_even fd__law_is_even
  f__law_gap_due : Addr
  fd__law_gap_due : FuncData
  D__law_gap_due : DefAt K mg "_law_gap_due" s__law_gap_due P__law_gap_due f__law_gap_due fd__law_gap_due
  f__law_near_right : Addr
  fd__law_near_right : FuncData
  D__law_near_right : DefAt K mg "_law_near_right" s__law_near_right P__law_near_right f__law_near_right fd__law_near_right
  f_law : Addr
  fd_law : FuncData
  D_law : DefAt K mg "law" s_law P_law f_law fd_law

/-! ### the cells that are drawn from -/
def srcD (c : Addr) (l m t : Int) : List (Key × V) := [(.inr "cells", .ref c), (.inr "left", .int l), (.inr "mixed", .int m), (.inr "turn", .int t)]
structure SrcAt (H : Hp) (d c : Addr) : Prop where
  ex : ∃ (cs : List Int) (l m t : Int), H d = some (.dK (srcD c l m t)) ∧ H c = some (.lst (cs.map V.int)) ∧ (∀ z ∈ cs, 0 ≤ z) ∧ cs.length ≤ 63 ∧ 0 ≤ l ∧ 0 ≤ m ∧ m < 2147483648
def Mdc (d c : Addr) : Addr → Prop := fun b => b = d ∨ b = c
theorem SrcAt.other {H : Hp} {d c p : Addr} {o : HO} (h : SrcAt H d c) (h1 : d ≠ p) (h2 : c ≠ p) : SrcAt (upd H p o) d c := by
  obtain ⟨cs, l, m, t, e1, e2, r⟩ := h.ex
  exact ⟨cs, l, m, t, by rw [upd_ne h1]; exact e1, by rw [upd_ne h2]; exact e2, r⟩
theorem SrcAt.d_ne {H : Hp} {d c p : Addr} (h : SrcAt H d c) (n : H p = none) : d ≠ p := by
  obtain ⟨cs, l, m, t, e1, e2, r⟩ := h.ex
  exact ne_of_none e1 n
theorem SrcAt.c_ne {H : Hp} {d c p : Addr} (h : SrcAt H d c) (n : H p = none) : c ≠ p := by
  obtain ⟨cs, l, m, t, e1, e2, r⟩ := h.ex
  exact ne_of_none e2 n
theorem SrcAt.new {H : Hp} {d c p : Addr} {o : HO} (h : SrcAt H d c) (n : H p = none) : SrcAt (upd H p o) d c := h.other (h.d_ne n) (h.c_ne n)
theorem SrcAt.keep {H H' : Hp} {d c : Addr} (h : SrcAt H d c) (k : Kp M0 H H') : SrcAt H' d c := by
  obtain ⟨cs, l, m, t, e1, e2, r⟩ := h.ex
  exact ⟨cs, l, m, t, k _ _ e1 (fun z => z), k _ _ e2 (fun z => z), r⟩
theorem SrcAt.tk {H H' : Hp} {d c : Addr} (h : SrcAt H d c) (k : Kp (Mdc d c) H H') : Tk H H' := k.tk fun b o m e => by
  obtain ⟨cs, l, m', t, e1, e2, r⟩ := h.ex
  rcases m with rfl | rfl
  · rw [e1] at e; cases e; rfl
  · rw [e2] at e; cases e; rfl
theorem src_c {H : Hp} {d c : Addr} {l m t : Int} (h : H d = some (.dK (srcD c l m t))) : DGet H d (.str "cells") (some (.ref c)) := by
  have e : valV (srcD c l m t) (.inr ("cells" : Str) : Key) = some (V.ref c) := by simp [valV, srcD]
  rw [← e]; exact DGet.k (k := Sum.inr "cells") h
theorem src_l {H : Hp} {d c : Addr} {l m t : Int} (h : H d = some (.dK (srcD c l m t))) : DGet H d (.str "left") (some (.int l)) := by
  have e : valV (srcD c l m t) (.inr ("left" : Str) : Key) = some (V.int l) := by
    have e1 : ¬ (("cells" : Str) = "left") := by decide +kernel
    simp [valV, srcD, e1]
  rw [← e]; exact DGet.k (k := Sum.inr "left") h
theorem src_m {H : Hp} {d c : Addr} {l m t : Int} (h : H d = some (.dK (srcD c l m t))) : DGet H d (.str "mixed") (some (.int m)) := by
  have e : valV (srcD c l m t) (.inr ("mixed" : Str) : Key) = some (V.int m) := by
    have e1 : ¬ (("cells" : Str) = "mixed") := by decide +kernel
    have e2 : ¬ (("left" : Str) = "mixed") := by decide +kernel
    simp [valV, srcD, e1, e2]
  rw [← e]; exact DGet.k (k := Sum.inr "mixed") h
theorem src_t {H : Hp} {d c : Addr} {l m t : Int} (h : H d = some (.dK (srcD c l m t))) : DGet H d (.str "turn") (some (.int t)) := by
  have e : valV (srcD c l m t) (.inr ("turn" : Str) : Key) = some (V.int t) := by
    have e1 : ¬ (("cells" : Str) = "turn") := by decide +kernel
    have e2 : ¬ (("left" : Str) = "turn") := by decide +kernel
    have e3 : ¬ (("mixed" : Str) = "turn") := by decide +kernel
    simp [valV, srcD, e1, e2, e3]
  rw [← e]; exact DGet.k (k := Sum.inr "turn") h
theorem put_l {H : Hp} {d c : Addr} {l m t l' : Int} (h : H d = some (.dK (srcD c l m t))) : DPut H d (.str "left") (.int l') (upd H d (.dK (srcD c l' m t))) := by
  have e : putK (srcD c l m t) (.inr ("left" : Str) : Key) (.int l') = srcD c l' m t := by
    have e1 : ¬ (("cells" : Str) = "left") := by decide +kernel
    have e2 : ¬ (("mixed" : Str) = "left") := by decide +kernel
    have e3 : ¬ (("turn" : Str) = "left") := by decide +kernel
    simp [putK, srcD, e1, e2, e3]
  rw [← e]; exact DPut.k (k := Sum.inr "left") h (by show 4 < sizeLine; decide)
theorem put_t {H : Hp} {d c : Addr} {l m t t' : Int} (h : H d = some (.dK (srcD c l m t))) : DPut H d (.str "turn") (.int t') (upd H d (.dK (srcD c l m t'))) := by
  have e : putK (srcD c l m t) (.inr ("turn" : Str) : Key) (.int t') = srcD c l m t' := by
    have e1 : ¬ (("cells" : Str) = "turn") := by decide +kernel
    have e2 : ¬ (("left" : Str) = "turn") := by decide +kernel
    have e3 : ¬ (("mixed" : Str) = "turn") := by decide +kernel
    simp [putK, srcD, e1, e2, e3]
  rw [← e]; exact DPut.k (k := Sum.inr "turn") h (by show 4 < sizeLine; decide)

section
variable {P : Program} {w : World} {K : PySem.W.Frag} {mg : Str → Option Value} {base : Heap}

/-! ### _law_open_cells -/
def sp__law_open_cells (K : PySem.W.Frag) : Sp := fun vs H Q _ => ∃ (a : Addr) (ns : List Int), vs = [.ref a] ∧ SqL K H a (ns.map V.int) ∧ ns.length ≤ 63 ∧
  ∀ (d c : Addr) (H' : Hp), Kp M0 H H' → H d = none → H c = none → SrcAt H' d c → d ≠ c → Q (.ref d) H'
theorem ok__law_open_cells (W : Ds K mg) : FnOk P w K mg base CX0 1 W.f__law_open_cells W.fd__law_open_cells P__law_open_cells (sp__law_open_cells K) := by
  refine W.D__law_open_cells.F.ok sc__law_open_cells (fun vs H Q E h => ?len) (fun cdv A outer s H vs Q E hr h => ?body)
  · obtain ⟨a, ns, rfl, _⟩ := h
    rfl
  · obtain ⟨a, ns, rfl, hS, hl, k⟩ := h
    have nd := sc__law_open_cells.nd
    have hu := hu_of hr
    have hu64 := hr.units
    have hu65 := hu65_of hr
    refine ⟨_, (pss_cons (ps_set (i := 1) nd rfl (by first | exact Or.inl rfl | exact Or.inr rfl) pe_int)
  (pss_cons (ps_for PassesOwn.never rfl (i_list K (pv 0)) (pg_name (i := 2) nd rfl (by first | exact Or.inl rfl | exact Or.inr rfl))
     (pss_one (ps_set (i := 1) nd rfl (by first | exact Or.inl rfl | exact Or.inr rfl) (pe_op op_mod (pe_callTy call_int1 (by rfl) W.T.b_int (by decide +kernel) (pa_cons (pe_op op_add (pe_op op_add (pe_op op_mulK (pv 1) pe_int) (pe_op op_mulK (pv 2) pe_int)) pe_int) pa_nil)) pe_int))))
  (pss_cons (ps_setLc (i := 3) (own := [("cell", 2)]) rfl nd rfl rfl (sw_true rfl rfl rfl (by decide +kernel)) (i_list K (pv 0)) (blkOk_by (N := N__law_open_cells) (sc := defScope s__law_open_cells) (by decide +kernel)) (fun _ _ _ _ _ => (pg_name (i := 2) nd rfl (by first | exact Or.inl rfl | exact Or.inr rfl))) (fun _ _ _ _ _ => pts_nil) (fun _ _ _ _ _ => (pe_callB call_abs (by rfl) W.T.b_abs (by decide +kernel) (pa_cons (pv 2) pa_nil))))
  (pss_one (ps_ret (pe_disp (pps_cons pe_str (e_revL K (pv 3)) (pps_cons pe_str pe_int (pps_cons pe_str (pv 1) (pps_cons pe_str pe_int pps_nil)))) (by rfl) (by rfl) (by decide) (by decide))))))), ?_⟩
    simp only [tSeq, tIfS, tNext, tRet, tRetN, tAsg, tDrop, tPar, tCons, tNil, tCB, tVar, tC, tOp, rI, rI0, rU, tTest, tB, tTup, tLst, gName, tIf, tAnd, tOr, tNot, tAndV, tOrV, tNotV, tUn, tCall, tChain, tSl, tNoPart, tPart, tBM, tBM0, tDGet, sDPut, tAugS, ipI, rIxT, rIxL, rMulK, rLenK, rLstK, tTruK, gTup, gCons, gNil, rEq, rNe, scal, tNever, rMulK, rGcd, L2.start, List.map, List.length, List.replicate, List.cons_append, List.nil_append, List.append_nil, List.set, List.set_cons_zero, List.set_cons_succ, List.getElem?_cons_succ, List.getElem?_cons_zero, Option.some.injEq, List.cons.injEq, V.int.injEq, V.str.injEq, V.bl.injEq, V.ref.injEq, and_true, true_and, exists_eq_left, exists_eq_left', exists_eq_right, exists_eq_right', exists_eq, exists_and_left, exists_and_right, and_assoc, exists_false, false_and, and_false, or_false, false_or, reduceCtorEq, Nat.reduceAdd, Nat.reduceSub, List.append_assoc, eq_self, if_true, if_false, Bool.false_eq_true, decide_eq_true_eq, List.length_cons, List.length_nil]
    have hk : ∀ (i : Nat) (x : V), (ns.map V.int)[i]? = some x → ∃ z, ns[i]? = some z ∧ x = .int z := fun i x hi => by
      rw [List.getElem?_map] at hi
      cases e : ns[i]? with
      | none => rw [e] at hi; cases hi
      | some z => rw [e] at hi; exact ⟨z, rfl, (Option.some.inj hi).symm⟩
    refine ⟨_, rfl, a, rfl, ⟨_, hS⟩, for_list (K := K) (a := a) (xs := ns.map V.int) (fun i σ H' => H' = H ∧ ∃ (m : Int) (v : Option V), σ = [some (.ref a), some (.int m), v, none] ∧ 0 ≤ m ∧ m < 2147483629) ⟨rfl, 11, none, rfl, by omega, by omega⟩ (fun i σ H' _ h => h.1 ▸ hS) ?_ ?_⟩
    · rintro i x σ H' hi ⟨rfl, m, v, rfl, h0, h1⟩
      obtain ⟨z, hz, rfl⟩ := hk i x hi
      simp only [tSeq, tIfS, tNext, tRet, tRetN, tAsg, tDrop, tPar, tCons, tNil, tCB, tVar, tC, tOp, rI, rI0, rU, tTest, tB, tTup, tLst, gName, tIf, tAnd, tOr, tNot, tAndV, tOrV, tNotV, tUn, tCall, tChain, tSl, tNoPart, tPart, tBM, tBM0, tDGet, sDPut, tAugS, ipI, rIxT, rIxL, rMulK, rLenK, rLstK, tTruK, gTup, gCons, gNil, rEq, rNe, scal, tNever, rMulK, rGcd, L2.start, List.map, List.length, List.replicate, List.cons_append, List.nil_append, List.append_nil, List.set, List.set_cons_zero, List.set_cons_succ, List.getElem?_cons_succ, List.getElem?_cons_zero, Option.some.injEq, List.cons.injEq, V.int.injEq, V.str.injEq, V.bl.injEq, V.ref.injEq, and_true, true_and, exists_eq_left, exists_eq_left', exists_eq_right, exists_eq_right', exists_eq, exists_and_left, exists_and_right, and_assoc, exists_false, false_and, and_false, or_false, false_or, reduceCtorEq, Nat.reduceAdd, Nat.reduceSub, List.append_assoc, eq_self, if_true, if_false, Bool.false_eq_true, decide_eq_true_eq, List.length_cons, List.length_nil]
      refine ⟨mulOk_r (by omega) (by omega), mulOk_r (by omega) (by omega), by omega, ?_, ?_⟩
      · exact Int.emod_nonneg _ (by omega)
      · exact Int.emod_lt_of_pos _ (by omega)
    · rintro σ H' ⟨rfl, m, v, rfl, h0, h1⟩
      simp only [tSeq, tIfS, tNext, tRet, tRetN, tAsg, tDrop, tPar, tCons, tNil, tCB, tVar, tC, tOp, rI, rI0, rU, tTest, tB, tTup, tLst, gName, tIf, tAnd, tOr, tNot, tAndV, tOrV, tNotV, tUn, tCall, tChain, tSl, tNoPart, tPart, tBM, tBM0, tDGet, sDPut, tAugS, ipI, rIxT, rIxL, rMulK, rLenK, rLstK, tTruK, gTup, gCons, gNil, rEq, rNe, scal, tNever, rMulK, rGcd, L2.start, List.map, List.length, List.replicate, List.cons_append, List.nil_append, List.append_nil, List.set, List.set_cons_zero, List.set_cons_succ, List.getElem?_cons_succ, List.getElem?_cons_zero, Option.some.injEq, List.cons.injEq, V.int.injEq, V.str.injEq, V.bl.injEq, V.ref.injEq, and_true, true_and, exists_eq_left, exists_eq_left', exists_eq_right, exists_eq_right', exists_eq, exists_and_left, exists_and_right, and_assoc, exists_false, false_and, and_false, or_false, false_or, reduceCtorEq, Nat.reduceAdd, Nat.reduceSub, List.append_assoc, eq_self, if_true, if_false, Bool.false_eq_true, decide_eq_true_eq, List.length_cons, List.length_nil]
      refine tlcL ?_
      refine ⟨_, rfl, lcL (ns.map PyData.int) (fun _ => true) (fun d => match d with | .int i => .int (if i < 0 then -i else i) | _ => d) (by rw [List.length_map, sizeLine_eq]; omega) hS (dps_ints ns) (tupDs_all.mpr fun d h => ?_) (fun d h _ => ?_) htt_yes (fun i d x H1 e _ hx k1 Q' q => ?_) fun D H1 vs hD k1 hd1 ha => ?_⟩
      · obtain ⟨z, _, rfl⟩ := List.mem_map.mp h; rfl
      · obtain ⟨z, _, rfl⟩ := List.mem_map.mp h; rfl
      · obtain ⟨z, _, rfl⟩ := List.mem_map.mp (List.mem_of_getElem? e)
        cases hx
        simp only [tSeq, tIfS, tNext, tRet, tRetN, tAsg, tDrop, tPar, tCons, tNil, tCB, tVar, tC, tOp, rI, rI0, rU, tTest, tB, tTup, tLst, gName, tIf, tAnd, tOr, tNot, tAndV, tOrV, tNotV, tUn, tCall, tChain, tSl, tNoPart, tPart, tBM, tBM0, tDGet, sDPut, tAugS, ipI, rIxT, rIxL, rMulK, rLenK, rLstK, tTruK, gTup, gCons, gNil, rEq, rNe, scal, tNever, rMulK, rGcd, L2.start, List.map, List.length, List.replicate, List.cons_append, List.nil_append, List.append_nil, List.set, List.set_cons_zero, List.set_cons_succ, List.getElem?_cons_succ, List.getElem?_cons_zero, Option.some.injEq, List.cons.injEq, V.int.injEq, V.str.injEq, V.bl.injEq, V.ref.injEq, and_true, true_and, exists_eq_left, exists_eq_left', exists_eq_right, exists_eq_right', exists_eq, exists_and_left, exists_and_right, and_assoc, exists_false, false_and, and_false, or_false, false_or, reduceCtorEq, Nat.reduceAdd, Nat.reduceSub, List.append_assoc, eq_self, if_true, if_false, Bool.false_eq_true, decide_eq_true_eq, List.length_cons, List.length_nil]
        exact q _ _ (Kp.refl _) (.int _)
      · have hvs : ∃ cs : List Int, vs = cs.map V.int ∧ (∀ z ∈ cs, 0 ≤ z) ∧ cs.length = ns.length := by
          have hf : ∀ (l : List Int) (vs : List V), DpAll K H1 vs (((l.map PyData.int).filter fun _ => true).map (fun d => match d with | .int i => .int (if i < 0 then -i else i) | _ => d)) → ∃ cs : List Int, vs = cs.map V.int ∧ (∀ z ∈ cs, 0 ≤ z) ∧ cs.length = l.length := by
            intro l
            induction l with
            | nil => intro vs h; cases h; exact ⟨[], rfl, by simp, rfl⟩
            | cons n r ih =>
              intro vs h
              simp only [List.map_cons, List.filter_cons_of_pos] at h
              cases h with
              | cons h1 h2 =>
                cases h1
                obtain ⟨cs, rfl, hc, hl⟩ := ih _ h2
                refine ⟨(if n < 0 then -n else n) :: cs, rfl, fun z hz => ?_, by simp [hl]⟩
                rcases List.mem_cons.mp hz with rfl | hz
                · split <;> omega
                · exact hc z hz
          exact hf ns vs ha
        obtain ⟨cs, rfl, hc0, hcl⟩ := hvs
        simp only [tDisp, tPairs, tRevL, tSeq, tIfS, tNext, tRet, tRetN, tAsg, tDrop, tPar, tCons, tNil, tCB, tVar, tC, tOp, rI, rI0, rU, tTest, tB, tTup, tLst, gName, tIf, tAnd, tOr, tNot, tAndV, tOrV, tNotV, tUn, tCall, tChain, tSl, tNoPart, tPart, tBM, tBM0, tDGet, sDPut, tAugS, ipI, rIxT, rIxL, rMulK, rLenK, rLstK, tTruK, gTup, gCons, gNil, rEq, rNe, scal, tNever, rMulK, rGcd, L2.start, List.map, List.length, List.replicate, List.cons_append, List.nil_append, List.append_nil, List.set, List.set_cons_zero, List.set_cons_succ, List.getElem?_cons_succ, List.getElem?_cons_zero, Option.some.injEq, List.cons.injEq, V.int.injEq, V.str.injEq, V.bl.injEq, V.ref.injEq, and_true, true_and, exists_eq_left, exists_eq_left', exists_eq_right, exists_eq_right', exists_eq, exists_and_left, exists_and_right, and_assoc, exists_false, false_and, and_false, or_false, false_or, reduceCtorEq, Nat.reduceAdd, Nat.reduceSub, List.append_assoc, eq_self, if_true, if_false, Bool.false_eq_true, decide_eq_true_eq, List.length_cons, List.length_nil]
        intro p hp
        have npD : D ≠ p := ne_of_none hd1 hp
        refine ⟨_, Or.inl (Or.inl (by rw [upd_ne npD]; exact hd1)), fun c hc => ?_⟩
        have npc : p ≠ c := ne_of_none (upd_same (H := H1) (o := HO.dK [])) hc
        have hcn : H1 c = none := by rw [upd_ne npc.symm] at hc; exact hc
        refine ⟨by rw [upd_ne npc, upd_same], srcD c 1 m 0, by simp [srcD, kV], by simp [srcD], ?_⟩
        have e1 : mergeK [] (srcD c 1 m 0) = srcD c 1 m 0 := by
          have e1 : ¬ (("cells" : Str) = "left") := by decide +kernel
          have e2 : ¬ (("cells" : Str) = "mixed") := by decide +kernel
          have e3 : ¬ (("cells" : Str) = "turn") := by decide +kernel
          have e4 : ¬ (("left" : Str) = "mixed") := by decide +kernel
          have e5 : ¬ (("left" : Str) = "turn") := by decide +kernel
          have e6 : ¬ (("mixed" : Str) = "turn") := by decide +kernel
          simp [mergeK, srcD, putK, e1, e2, e3, e4, e5, e6]
        rw [e1]
        have n1 : H' p = none := by
          cases q : H' p with
          | none => rfl
          | some o => rw [k1 p o q (fun z => z)] at hp; cases hp
        have n2 : H' c = none := by
          cases q : H' c with
          | none => rfl
          | some o => rw [k1 c o q (fun z => z)] at hcn; cases hcn
        refine k p c _ (((k1.at n1).at n2).at n1) n1 n2 ⟨cs.reverse, 1, m, 0, upd_same, ?_, fun z hz => hc0 z (List.mem_reverse.mp hz), by rw [List.length_reverse, hcl]; exact hl, by omega, h0, by omega⟩ npc
        rw [upd_ne npc.symm, upd_same, List.map_reverse]

/-! ### _law_pick -/
def sp__law_pick (K : PySem.W.Frag) : Sp := fun vs H Q _ => ∃ (d c : Addr) (most : Int), vs = [.ref d, .int most] ∧ SrcAt H d c ∧ d ≠ c ∧ most.natAbs < 2 ^ 8000 ∧
  ∀ (r : Int) (H' : Hp), 0 ≤ r → (r < most ∨ r = 0) → Kp (Mdc d c) H H' → SrcAt H' d c → Q (.int r) H'
theorem ok__law_pick (W : Ds K mg) : FnOk P w K mg base CX0 1 W.f__law_pick W.fd__law_pick P__law_pick (sp__law_pick K) := by
  refine W.D__law_pick.F.ok sc__law_pick (fun vs H Q E h => ?len) (fun cdv A outer s H vs Q E hr h => ?body)
  · obtain ⟨d, c, most, rfl, _⟩ := h
    rfl
  · obtain ⟨d, c, most, rfl, hS, ndc, hm, k⟩ := h
    have nd := sc__law_pick.nd
    have hu := hu_of hr
    have hu64 := hr.units
    have hu65 := hu65_of hr
    refine ⟨_, (pss_cons (ps_if (pt_cmpR op_lt (pv 1) pe_int (nomark _))
     (pss_one (ps_ret pe_int))
     pss_nil)
  (pss_cons (ps_set (i := 2) nd rfl (by first | exact Or.inl rfl | exact Or.inr rfl) (pe_dget hu (pv 0) pe_str (fun _ _ => rfl)))
  (pss_cons (ps_while PassesOwn.never (PW.pt (pw_and (pt_cmpR op_lt (pe_dget hu (pv 0) pe_str (fun _ _ => rfl)) pe_int (nomark _)) (pw_and1 (pt_cmpR op_gt (pe_callB (c_len K) (by rfl) W.T.b_len (by decide +kernel) (pa_cons (pv 2) pa_nil)) pe_int (nomark _)))))
     (pss_one (ps_dput hu (pv 0) pe_str (e_bm0 K (pe_bm0 PySem.F.plainAttrs_list PySem.F.slot_list_pop PySem.F.type_list_pop mt_pop (pv 2))) (by rfl))))
  (pss_cons (ps_set (i := 3) nd rfl (by first | exact Or.inl rfl | exact Or.inr rfl) (pe_dget hu (pv 0) pe_str (fun _ _ => rfl)))
  (pss_cons (ps_if (pt_cmpR op_gt (pv 3) pe_int (nomark _))
     (pss_cons (ps_dput hu (pv 0) pe_str (pe_op op_fdivW (pv 3) (pv 1)) (by rfl))
      (pss_one (ps_ret (pe_op op_mod (pe_callTy call_int1 (by rfl) W.T.b_int (by decide +kernel) (pa_cons (pv 3) pa_nil)) (pv 1)))))
     pss_nil)
  (pss_cons (ps_dput hu (pv 0) pe_str (pe_op op_add (pe_dget hu (pv 0) pe_str (fun _ _ => rfl)) pe_int) (by rfl))
  (pss_cons (ps_set (i := 4) nd rfl (by first | exact Or.inl rfl | exact Or.inr rfl) (pe_dget hu (pv 0) pe_str (fun _ _ => rfl)))
  (pss_cons (ps_set (i := 5) nd rfl (by first | exact Or.inl rfl | exact Or.inr rfl) (pe_op op_mod (pe_callTy call_int1 (by rfl) W.T.b_int (by decide +kernel) (pa_cons (pe_op op_add (pe_dget hu (pv 0) pe_str (fun _ _ => rfl)) (pe_op op_mulK (pv 4) pe_int)) pa_nil)) pe_int))
  (pss_cons (ps_set (i := 5) nd rfl (by first | exact Or.inl rfl | exact Or.inr rfl) (pe_op op_mod (pe_callTy call_int1 (by rfl) W.T.b_int (by decide +kernel) (pa_cons (pe_op op_add (pe_op op_mulK (pv 5) (pv 5)) (pe_op op_mulK (pv 4) pe_int)) pa_nil)) pe_int))
  (pss_one (ps_ret (pe_op op_mod (pe_callTy call_int1 (by rfl) W.T.b_int (by decide +kernel) (pa_cons (pe_op op_fdivW (pv 5) pe_int) pa_nil)) (pv 1))))))))))))), ?_⟩
    simp only [tSeq, tIfS, tNext, tRet, tRetN, tAsg, tDrop, tPar, tCons, tNil, tCB, tVar, tC, tOp, rI, rI0, rU, tTest, tB, tTup, tLst, gName, tIf, tAnd, tOr, tNot, tAndV, tOrV, tNotV, tUn, tCall, tChain, tSl, tNoPart, tPart, tBM, tBM0, tDGet, sDPut, tAugS, ipI, rIxT, rIxL, rMulK, rLenK, rLstK, tTruK, gTup, gCons, gNil, rEq, rNe, scal, tNever, rMulK, rGcd, L2.start, List.map, List.length, List.replicate, List.cons_append, List.nil_append, List.append_nil, List.set, List.set_cons_zero, List.set_cons_succ, List.getElem?_cons_succ, List.getElem?_cons_zero, Option.some.injEq, List.cons.injEq, V.int.injEq, V.str.injEq, V.bl.injEq, V.ref.injEq, and_true, true_and, exists_eq_left, exists_eq_left', exists_eq_right, exists_eq_right', exists_eq, exists_and_left, exists_and_right, and_assoc, exists_false, false_and, and_false, or_false, false_or, reduceCtorEq, Nat.reduceAdd, Nat.reduceSub, List.append_assoc, eq_self, if_true, if_false, Bool.false_eq_true, decide_eq_true_eq, List.length_cons, List.length_nil]
    obtain ⟨cs, l, m, t, hd, hc, hcs, hcl, hl0, hm0, hm1⟩ := hS.ex
    refine ite2 (fun h2 => ?_) (fun h2 => ?_)
    · exact k 0 H (by omega) (Or.inr rfl) (Kp.refl H) hS
    have hmost : 2 ≤ most := by simpa using h2
    refine ⟨_, src_c hd, ?_⟩
    refine while_at (fun σ H' => Kp (Mdc d c) H H' ∧ SrcAt H' d c ∧ σ = [some (.ref d), some (.int most), some (.ref c), none, none, none]) (fun _ H' => match H' c with | some (.lst xs) => xs.length | _ => 0) ⟨Kp.refl H, hS, rfl⟩ ?_
    rintro σ H' ⟨k1, hS1, rfl⟩
    clear hd hc hcs hcl hl0 hm0 hm1 cs l m t hS
    obtain ⟨cs, l, m, t, hd, hc, hcs, hcl, hl0, hm0, hm1⟩ := hS1.ex
    simp only [tSeq, tIfS, tNext, tRet, tRetN, tAsg, tDrop, tPar, tCons, tNil, tCB, tVar, tC, tOp, rI, rI0, rU, tTest, tB, tTup, tLst, gName, tIf, tAnd, tOr, tNot, tAndV, tOrV, tNotV, tUn, tCall, tChain, tSl, tNoPart, tPart, tBM, tBM0, tDGet, sDPut, tAugS, ipI, rIxT, rIxL, rMulK, rLenK, rLstK, tTruK, gTup, gCons, gNil, rEq, rNe, scal, tNever, rMulK, rGcd, L2.start, List.map, List.length, List.replicate, List.cons_append, List.nil_append, List.append_nil, List.set, List.set_cons_zero, List.set_cons_succ, List.getElem?_cons_succ, List.getElem?_cons_zero, Option.some.injEq, List.cons.injEq, V.int.injEq, V.str.injEq, V.bl.injEq, V.ref.injEq, and_true, true_and, exists_eq_left, exists_eq_left', exists_eq_right, exists_eq_right', exists_eq, exists_and_left, exists_and_right, and_assoc, exists_false, false_and, and_false, or_false, false_or, reduceCtorEq, Nat.reduceAdd, Nat.reduceSub, List.append_assoc, eq_self, if_true, if_false, Bool.false_eq_true, decide_eq_true_eq, List.length_cons, List.length_nil]
    refine ⟨_, src_l hd, ?_⟩
    simp only [tSeq, tIfS, tNext, tRet, tRetN, tAsg, tDrop, tPar, tCons, tNil, tCB, tVar, tC, tOp, rI, rI0, rU, tTest, tB, tTup, tLst, gName, tIf, tAnd, tOr, tNot, tAndV, tOrV, tNotV, tUn, tCall, tChain, tSl, tNoPart, tPart, tBM, tBM0, tDGet, sDPut, tAugS, ipI, rIxT, rIxL, rMulK, rLenK, rLstK, tTruK, gTup, gCons, gNil, rEq, rNe, scal, tNever, rMulK, rGcd, L2.start, List.map, List.length, List.replicate, List.cons_append, List.nil_append, List.append_nil, List.set, List.set_cons_zero, List.set_cons_succ, List.getElem?_cons_succ, List.getElem?_cons_zero, Option.some.injEq, List.cons.injEq, V.int.injEq, V.str.injEq, V.bl.injEq, V.ref.injEq, and_true, true_and, exists_eq_left, exists_eq_left', exists_eq_right, exists_eq_right', exists_eq, exists_and_left, exists_and_right, and_assoc, exists_false, false_and, and_false, or_false, false_or, reduceCtorEq, Nat.reduceAdd, Nat.reduceSub, List.append_assoc, eq_self, if_true, if_false, Bool.false_eq_true, decide_eq_true_eq, List.length_cons, List.length_nil]
    have cSq : SqL K H' c (cs.map V.int) := Or.inl (Or.inl hc)
    refine ite2 (fun g1 => ?_) (fun g1 => ?_)
    · refine ⟨_, Or.inl cSq, ?_⟩
      refine ite2 (fun g2 => ?_) (fun g2 => ?_)
      · refine ⟨_, fun _ _ h => h, Or.inl ⟨rfl, _, cSq⟩, ?_⟩
        have hne : cs ≠ [] := by
          rintro rfl
          simp at g2
        refine ⟨c, _, .int (cs.getLast hne), rfl, rfl, hc, ?_, ?_⟩
        · rw [List.getElem?_map, List.length_map, ← List.getLast?_eq_getElem?, List.getLast?_eq_getLast hne]; rfl
        have hd' : (upd H' c (.lst (cs.map V.int).dropLast)) d = some (.dK (srcD c l m t)) := by rw [upd_ne ndc]; exact hd
        refine ⟨_, put_l hd', ?_⟩
        have hc' : (upd (upd H' c (.lst (cs.map V.int).dropLast)) d (.dK (srcD c (cs.getLast hne) m t))) c = some (.lst (cs.dropLast.map V.int)) := by
          rw [upd_ne ndc.symm, upd_same, List.map_dropLast]
        refine ⟨k1.trans fun b o e n => ?_, ⟨cs.dropLast, _, m, t, upd_same, hc', fun z hz => hcs z ((List.dropLast_sublist cs).subset hz), by rw [List.length_dropLast]; omega, hcs _ (List.getLast_mem hne), hm0, hm1⟩, rfl, ?_⟩
        · rw [upd_ne (fun z => n (Or.inl z)), upd_ne (fun z => n (Or.inr z))]; exact e
        · rw [hc', hc]
          simp only [List.length_map, List.length_dropLast]
          have := List.length_pos_iff.mpr hne
          omega
      · skip
        refine ⟨_, src_l hd, ?_⟩
        simp only [tSeq, tIfS, tNext, tRet, tRetN, tAsg, tDrop, tPar, tCons, tNil, tCB, tVar, tC, tOp, rI, rI0, rU, tTest, tB, tTup, tLst, gName, tIf, tAnd, tOr, tNot, tAndV, tOrV, tNotV, tUn, tCall, tChain, tSl, tNoPart, tPart, tBM, tBM0, tDGet, sDPut, tAugS, ipI, rIxT, rIxL, rMulK, rLenK, rLstK, tTruK, gTup, gCons, gNil, rEq, rNe, scal, tNever, rMulK, rGcd, L2.start, List.map, List.length, List.replicate, List.cons_append, List.nil_append, List.append_nil, List.set, List.set_cons_zero, List.set_cons_succ, List.getElem?_cons_succ, List.getElem?_cons_zero, Option.some.injEq, List.cons.injEq, V.int.injEq, V.str.injEq, V.bl.injEq, V.ref.injEq, and_true, true_and, exists_eq_left, exists_eq_left', exists_eq_right, exists_eq_right', exists_eq, exists_and_left, exists_and_right, and_assoc, exists_false, false_and, and_false, or_false, false_or, reduceCtorEq, Nat.reduceAdd, Nat.reduceSub, List.append_assoc, eq_self, if_true, if_false, Bool.false_eq_true, decide_eq_true_eq, List.length_cons, List.length_nil]
        refine ite2 (fun g3 => ?_) (fun g3 => ?_)
        · refine ⟨wide_div (by omega) hm (by omega) (by omega), _, put_l hd, by omega, ?_⟩
          have k2 : Kp (Mdc d c) H (upd H' d (.dK (srcD c (l / most) m t))) := k1.trans fun b o e n => by rw [upd_ne (fun z => n (Or.inl z))]; exact e
          refine k _ _ (Int.emod_nonneg _ (by omega)) (Or.inl (Int.emod_lt_of_pos _ (by omega))) k2 ⟨cs, l / most, m, t, upd_same, by rw [upd_ne ndc.symm]; exact hc, hcs, hcl, Int.ediv_nonneg hl0 (by omega), hm0, hm1⟩
        · refine ⟨_, src_t hd, ?_⟩
          simp only [tSeq, tIfS, tNext, tRet, tRetN, tAsg, tDrop, tPar, tCons, tNil, tCB, tVar, tC, tOp, rI, rI0, rU, tTest, tB, tTup, tLst, gName, tIf, tAnd, tOr, tNot, tAndV, tOrV, tNotV, tUn, tCall, tChain, tSl, tNoPart, tPart, tBM, tBM0, tDGet, sDPut, tAugS, ipI, rIxT, rIxL, rMulK, rLenK, rLstK, tTruK, gTup, gCons, gNil, rEq, rNe, scal, tNever, rMulK, rGcd, L2.start, List.map, List.length, List.replicate, List.cons_append, List.nil_append, List.append_nil, List.set, List.set_cons_zero, List.set_cons_succ, List.getElem?_cons_succ, List.getElem?_cons_zero, Option.some.injEq, List.cons.injEq, V.int.injEq, V.str.injEq, V.bl.injEq, V.ref.injEq, and_true, true_and, exists_eq_left, exists_eq_left', exists_eq_right, exists_eq_right', exists_eq, exists_and_left, exists_and_right, and_assoc, exists_false, false_and, and_false, or_false, false_or, reduceCtorEq, Nat.reduceAdd, Nat.reduceSub, List.append_assoc, eq_self, if_true, if_false, Bool.false_eq_true, decide_eq_true_eq, List.length_cons, List.length_nil]
          refine ⟨_, put_t hd, _, src_t upd_same, _, src_m upd_same, ?_⟩
          simp only [tSeq, tIfS, tNext, tRet, tRetN, tAsg, tDrop, tPar, tCons, tNil, tCB, tVar, tC, tOp, rI, rI0, rU, tTest, tB, tTup, tLst, gName, tIf, tAnd, tOr, tNot, tAndV, tOrV, tNotV, tUn, tCall, tChain, tSl, tNoPart, tPart, tBM, tBM0, tDGet, sDPut, tAugS, ipI, rIxT, rIxL, rMulK, rLenK, rLstK, tTruK, gTup, gCons, gNil, rEq, rNe, scal, tNever, rMulK, rGcd, L2.start, List.map, List.length, List.replicate, List.cons_append, List.nil_append, List.append_nil, List.set, List.set_cons_zero, List.set_cons_succ, List.getElem?_cons_succ, List.getElem?_cons_zero, Option.some.injEq, List.cons.injEq, V.int.injEq, V.str.injEq, V.bl.injEq, V.ref.injEq, and_true, true_and, exists_eq_left, exists_eq_left', exists_eq_right, exists_eq_right', exists_eq, exists_and_left, exists_and_right, and_assoc, exists_false, false_and, and_false, or_false, false_or, reduceCtorEq, Nat.reduceAdd, Nat.reduceSub, List.append_assoc, eq_self, if_true, if_false, Bool.false_eq_true, decide_eq_true_eq, List.length_cons, List.length_nil]
          have b1 : 0 ≤ (m + t * 104729) % 998244353 := Int.emod_nonneg _ (by omega)
          have b2 : (m + t * 104729) % 998244353 < 998244353 := Int.emod_lt_of_pos _ (by omega)
          have b1' : 0 ≤ (m + (t + 1) * 104729) % 998244353 := Int.emod_nonneg _ (by omega)
          have b2' : (m + (t + 1) * 104729) % 998244353 < 998244353 := Int.emod_lt_of_pos _ (by omega)
          refine ⟨mulOk_r (by omega) (by omega), by omega, mulOk_r (by omega) (by omega), mulOk_r (by omega) (by omega), by omega, wide_div (b := 10) (by omega) (by decide) (by omega) (by omega), by omega, ?_⟩
          have k2 : Kp (Mdc d c) H (upd H' d (.dK (srcD c l m (t + 1)))) := k1.trans fun b o e n => by rw [upd_ne (fun z => n (Or.inl z))]; exact e
          refine k _ _ (Int.emod_nonneg _ (by omega)) (Or.inl (Int.emod_lt_of_pos _ (by omega))) k2 ⟨cs, l, m, t + 1, upd_same, by rw [upd_ne ndc.symm]; exact hc, hcs, hcl, hl0, hm0, hm1⟩
    · skip
      refine ⟨_, src_l hd, ?_⟩
      simp only [tSeq, tIfS, tNext, tRet, tRetN, tAsg, tDrop, tPar, tCons, tNil, tCB, tVar, tC, tOp, rI, rI0, rU, tTest, tB, tTup, tLst, gName, tIf, tAnd, tOr, tNot, tAndV, tOrV, tNotV, tUn, tCall, tChain, tSl, tNoPart, tPart, tBM, tBM0, tDGet, sDPut, tAugS, ipI, rIxT, rIxL, rMulK, rLenK, rLstK, tTruK, gTup, gCons, gNil, rEq, rNe, scal, tNever, rMulK, rGcd, L2.start, List.map, List.length, List.replicate, List.cons_append, List.nil_append, List.append_nil, List.set, List.set_cons_zero, List.set_cons_succ, List.getElem?_cons_succ, List.getElem?_cons_zero, Option.some.injEq, List.cons.injEq, V.int.injEq, V.str.injEq, V.bl.injEq, V.ref.injEq, and_true, true_and, exists_eq_left, exists_eq_left', exists_eq_right, exists_eq_right', exists_eq, exists_and_left, exists_and_right, and_assoc, exists_false, false_and, and_false, or_false, false_or, reduceCtorEq, Nat.reduceAdd, Nat.reduceSub, List.append_assoc, eq_self, if_true, if_false, Bool.false_eq_true, decide_eq_true_eq, List.length_cons, List.length_nil]
      refine ite2 (fun g3 => ?_) (fun g3 => ?_)
      · refine ⟨wide_div (by omega) hm (by omega) (by omega), _, put_l hd, by omega, ?_⟩
        have k2 : Kp (Mdc d c) H (upd H' d (.dK (srcD c (l / most) m t))) := k1.trans fun b o e n => by rw [upd_ne (fun z => n (Or.inl z))]; exact e
        refine k _ _ (Int.emod_nonneg _ (by omega)) (Or.inl (Int.emod_lt_of_pos _ (by omega))) k2 ⟨cs, l / most, m, t, upd_same, by rw [upd_ne ndc.symm]; exact hc, hcs, hcl, Int.ediv_nonneg hl0 (by omega), hm0, hm1⟩
      · refine ⟨_, src_t hd, ?_⟩
        simp only [tSeq, tIfS, tNext, tRet, tRetN, tAsg, tDrop, tPar, tCons, tNil, tCB, tVar, tC, tOp, rI, rI0, rU, tTest, tB, tTup, tLst, gName, tIf, tAnd, tOr, tNot, tAndV, tOrV, tNotV, tUn, tCall, tChain, tSl, tNoPart, tPart, tBM, tBM0, tDGet, sDPut, tAugS, ipI, rIxT, rIxL, rMulK, rLenK, rLstK, tTruK, gTup, gCons, gNil, rEq, rNe, scal, tNever, rMulK, rGcd, L2.start, List.map, List.length, List.replicate, List.cons_append, List.nil_append, List.append_nil, List.set, List.set_cons_zero, List.set_cons_succ, List.getElem?_cons_succ, List.getElem?_cons_zero, Option.some.injEq, List.cons.injEq, V.int.injEq, V.str.injEq, V.bl.injEq, V.ref.injEq, and_true, true_and, exists_eq_left, exists_eq_left', exists_eq_right, exists_eq_right', exists_eq, exists_and_left, exists_and_right, and_assoc, exists_false, false_and, and_false, or_false, false_or, reduceCtorEq, Nat.reduceAdd, Nat.reduceSub, List.append_assoc, eq_self, if_true, if_false, Bool.false_eq_true, decide_eq_true_eq, List.length_cons, List.length_nil]
        refine ⟨_, put_t hd, _, src_t upd_same, _, src_m upd_same, ?_⟩
        simp only [tSeq, tIfS, tNext, tRet, tRetN, tAsg, tDrop, tPar, tCons, tNil, tCB, tVar, tC, tOp, rI, rI0, rU, tTest, tB, tTup, tLst, gName, tIf, tAnd, tOr, tNot, tAndV, tOrV, tNotV, tUn, tCall, tChain, tSl, tNoPart, tPart, tBM, tBM0, tDGet, sDPut, tAugS, ipI, rIxT, rIxL, rMulK, rLenK, rLstK, tTruK, gTup, gCons, gNil, rEq, rNe, scal, tNever, rMulK, rGcd, L2.start, List.map, List.length, List.replicate, List.cons_append, List.nil_append, List.append_nil, List.set, List.set_cons_zero, List.set_cons_succ, List.getElem?_cons_succ, List.getElem?_cons_zero, Option.some.injEq, List.cons.injEq, V.int.injEq, V.str.injEq, V.bl.injEq, V.ref.injEq, and_true, true_and, exists_eq_left, exists_eq_left', exists_eq_right, exists_eq_right', exists_eq, exists_and_left, exists_and_right, and_assoc, exists_false, false_and, and_false, or_false, false_or, reduceCtorEq, Nat.reduceAdd, Nat.reduceSub, List.append_assoc, eq_self, if_true, if_false, Bool.false_eq_true, decide_eq_true_eq, List.length_cons, List.length_nil]
        have b1 : 0 ≤ (m + t * 104729) % 998244353 := Int.emod_nonneg _ (by omega)
        have b2 : (m + t * 104729) % 998244353 < 998244353 := Int.emod_lt_of_pos _ (by omega)
        have b1' : 0 ≤ (m + (t + 1) * 104729) % 998244353 := Int.emod_nonneg _ (by omega)
        have b2' : (m + (t + 1) * 104729) % 998244353 < 998244353 := Int.emod_lt_of_pos _ (by omega)
        refine ⟨mulOk_r (by omega) (by omega), by omega, mulOk_r (by omega) (by omega), mulOk_r (by omega) (by omega), by omega, wide_div (b := 10) (by omega) (by decide) (by omega) (by omega), by omega, ?_⟩
        have k2 : Kp (Mdc d c) H (upd H' d (.dK (srcD c l m (t + 1)))) := k1.trans fun b o e n => by rw [upd_ne (fun z => n (Or.inl z))]; exact e
        refine k _ _ (Int.emod_nonneg _ (by omega)) (Or.inl (Int.emod_lt_of_pos _ (by omega))) k2 ⟨cs, l, m, t + 1, upd_same, by rw [upd_ne ndc.symm]; exact hc, hcs, hcl, hl0, hm0, hm1⟩
end
end G
set_option Elab.async false
set_option linter.all false
set_option maxRecDepth 100000
namespace G
open PySem L2
theorem gcd_step {a b : Int} (ha : 0 ≤ a) (hb : 0 ≤ b) : Int.gcd b (a % b) = Int.gcd a b := by
  obtain ⟨m, rfl⟩ := Int.eq_ofNat_of_zero_le ha
  obtain ⟨n, rfl⟩ := Int.eq_ofNat_of_zero_le hb
  rw [Int.gcd_comm (m : Int)]
  show Nat.gcd n (m % n) = Nat.gcd n m
  rw [Nat.gcd_comm n, ← Nat.gcd_rec n m]
section
variable {P : Program} {w : World} {K : PySem.W.Frag} {mg : Str → Option Value} {base : Heap}

/-! ### _law_point -/
def sp__law_point (K : PySem.W.Frag) : Sp := fun vs H Q _ => ∃ p q : Int, vs = [.int p, .int q] ∧ 0 < q ∧ q.natAbs < 2 ^ 8000 ∧
  ∀ (v : V) (H' : Hp), Kp M0 H H' → Dp K H' v (ptD (normP p q)) → Q v H'
theorem ok__law_point (W : Ds K mg) : FnOk P w K mg base CX0 1 W.f__law_point W.fd__law_point P__law_point (sp__law_point K) := by
  refine W.D__law_point.F.ok sc__law_point (fun vs H Q E h => ?len) (fun cdv A outer s H vs Q E hr h => ?body)
  case len =>
    obtain ⟨p, q, rfl, _⟩ := h
    rfl
  case body =>
    obtain ⟨p, q, rfl, hq, hb, k⟩ := h
    have nd := sc__law_point.nd
    have hu := hu_of hr
    have hu64 := hr.units
    have hu65 := hu65_of hr
    refine ⟨_, (pss_cons (ps_par (i := 2) (j := 3) rfl nd rfl rfl (by decide) rfl rfl (pa_cons (pe_callB call_abs (by rfl) W.T.b_abs (by decide +kernel) (pa_cons (pv 0) pa_nil)) (pa_cons (pv 1) pa_nil)) (by rfl))
  (pss_cons (ps_while PassesOwn.never (pt_cmpR op_gt (pv 3) pe_int (nomark _))
     (pss_one (ps_par (i := 2) (j := 3) rfl nd rfl rfl (by decide) rfl rfl (pa_cons (pv 3) (pa_cons (pe_op op_mod (pe_callTy call_int1 (by rfl) W.T.b_int (by decide +kernel) (pa_cons (pv 2) pa_nil)) (pv 3)) pa_nil)) (by rfl))))
  (pss_one (ps_ret (pe_tup (pa_cons (pe_op op_fdivW (pv 0) (pv 2)) (pa_cons (pe_op op_fdivW (pv 1) (pv 2)) pa_nil))))))), ?_⟩
    simp only [tSeq, tIfS, tNext, tRet, tRetN, tAsg, tDrop, tPar, tCons, tNil, tCB, tVar, tC, tOp, rI, rI0, rU, tTest, tB, tTup, tLst, gName, tIf, tAnd, tOr, tNot, tAndV, tOrV, tNotV, tUn, tCall, tChain, tSl, tNoPart, tPart, tBM, tBM0, tDGet, sDPut, tAugS, ipI, rIxT, rIxL, rMulK, rLenK, rLstK, tTruK, gTup, gCons, gNil, rEq, rNe, scal, tNever, rMulK, rGcd, L2.start, List.map, List.length, List.replicate, List.cons_append, List.nil_append, List.append_nil, List.set, List.set_cons_zero, List.set_cons_succ, List.getElem?_cons_succ, List.getElem?_cons_zero, Option.some.injEq, List.cons.injEq, V.int.injEq, V.str.injEq, V.bl.injEq, V.ref.injEq, and_true, true_and, exists_eq_left, exists_eq_left', exists_eq_right, exists_eq_right', exists_eq, exists_and_left, exists_and_right, and_assoc, exists_false, false_and, and_false, or_false, false_or, reduceCtorEq, Nat.reduceAdd, Nat.reduceSub, List.append_assoc, eq_self, if_true, if_false, Bool.false_eq_true, decide_eq_true_eq, List.length_cons, List.length_nil]
    refine while_at (fun σ H' => H' = H ∧ ∃ a b : Int, σ = [some (.int p), some (.int q), some (.int a), some (.int b)] ∧ 0 ≤ a ∧ 0 ≤ b ∧ Int.gcd a b = Int.gcd p q) (fun σ _ => match σ with | [_, _, _, some (.int b)] => b.toNat | _ => 0) ⟨rfl, _, q, rfl, ?_, by omega, ?_⟩ ?_
    · split <;> omega
    · split <;> simp
    · rintro σ H' ⟨rfl, a, b, rfl, ha, hb0, hg⟩
      simp only [tSeq, tIfS, tNext, tRet, tRetN, tAsg, tDrop, tPar, tCons, tNil, tCB, tVar, tC, tOp, rI, rI0, rU, tTest, tB, tTup, tLst, gName, tIf, tAnd, tOr, tNot, tAndV, tOrV, tNotV, tUn, tCall, tChain, tSl, tNoPart, tPart, tBM, tBM0, tDGet, sDPut, tAugS, ipI, rIxT, rIxL, rMulK, rLenK, rLstK, tTruK, gTup, gCons, gNil, rEq, rNe, scal, tNever, rMulK, rGcd, L2.start, List.map, List.length, List.replicate, List.cons_append, List.nil_append, List.append_nil, List.set, List.set_cons_zero, List.set_cons_succ, List.getElem?_cons_succ, List.getElem?_cons_zero, Option.some.injEq, List.cons.injEq, V.int.injEq, V.str.injEq, V.bl.injEq, V.ref.injEq, and_true, true_and, exists_eq_left, exists_eq_left', exists_eq_right, exists_eq_right', exists_eq, exists_and_left, exists_and_right, and_assoc, exists_false, false_and, and_false, or_false, false_or, reduceCtorEq, Nat.reduceAdd, Nat.reduceSub, List.append_assoc, eq_self, if_true, if_false, Bool.false_eq_true, decide_eq_true_eq, List.length_cons, List.length_nil]
      have hgp := gcd_pos' (p := p) hq
      have hgl : Int.gcd p q ≤ q.natAbs := Int.gcd_le_natAbs_right p (by omega)
      refine ite2 (fun hc => ?_) (fun hc => ?_)
      · have h1 := Int.emod_nonneg a (show b ≠ 0 by omega)
        have h2 := Int.emod_lt_of_pos a hc
        refine ⟨_, fun _ _ h => h, by omega, rfl, ⟨b, a % b, rfl, hb0, h1, ?_⟩, ?_⟩
        · rw [← hg]; exact gcd_step ha hb0
        · show (a % b).toNat < b.toNat
          omega
      · have hb00 : b = 0 := by omega
        subst hb00
        have ha' : a = (Int.gcd p q : Int) := by
          rw [Int.gcd_zero_right] at hg
          omega
        have hw : CDivW p a := by
          rw [ha']
          exact wide_div hgp (b := 8000) (by rw [Int.natAbs_natCast]; omega) (by omega) (by omega)
        refine ⟨hw, hw, by decide, fun t ht => ?_⟩
        refine k _ _ (Kp.new ht) ?_
        rw [ha']
        exact pt_mk (Or.inl (Or.inl upd_same))

/-! ### comparing -/
def sp_lt (K : PySem.W.Frag) : Sp := fun vs H Q _ => ∃ (v u : V) (x y : Pt), vs = [v, u] ∧ Dp K H v (ptD x) ∧ Dp K H u (ptD y) ∧ Sz 4000 x ∧ Sz 4000 y ∧ Q (.bl (decide (ltP x y))) H
abbrev sp__law_less := sp_lt
abbrev sp_is_before := sp_lt
theorem ok__law_less (W : Ds K mg) : FnOk P w K mg base CX0 1 W.f__law_less W.fd__law_less P__law_less (sp__law_less K) := by
  refine W.D__law_less.F.ok sc__law_less (fun vs H Q E h => ?len) (fun cdv A outer s H vs Q E hr h => ?body)
  case len =>
    obtain ⟨v, u, x, y, rfl, _⟩ := h
    rfl
  case body =>
    obtain ⟨v, u, x, y, rfl, hx, hy, sx, sy, k⟩ := h
    obtain ⟨a, rfl, ha⟩ := pt_of hx
    obtain ⟨b, rfl, hb⟩ := pt_of hy
    have nd := sc__law_less.nd
    have hu := hu_of hr
    have hu64 := hr.units
    have hu65 := hu65_of hr
    refine ⟨_, (pss_one (ps_ret (pe_cmpR op_lt (pe_op op_mulK (pe_ix (k_ixT K) (pv 0) pe_int (fun _ _ => rfl)) (pe_ix (k_ixT K) (pv 1) pe_int (fun _ _ => rfl))) (pe_op op_mulK (pe_ix (k_ixT K) (pv 1) pe_int (fun _ _ => rfl)) (pe_ix (k_ixT K) (pv 0) pe_int (fun _ _ => rfl))) (nomark _)))), ?_⟩
    simp only [tSeq, tIfS, tNext, tRet, tRetN, tAsg, tDrop, tPar, tCons, tNil, tCB, tVar, tC, tOp, rI, rI0, rU, tTest, tB, tTup, tLst, gName, tIf, tAnd, tOr, tNot, tAndV, tOrV, tNotV, tUn, tCall, tChain, tSl, tNoPart, tPart, tBM, tBM0, tDGet, sDPut, tAugS, ipI, rIxT, rIxL, rMulK, rLenK, rLstK, tTruK, gTup, gCons, gNil, rEq, rNe, scal, tNever, rMulK, rGcd, L2.start, List.map, List.length, List.replicate, List.cons_append, List.nil_append, List.append_nil, List.set, List.set_cons_zero, List.set_cons_succ, List.getElem?_cons_succ, List.getElem?_cons_zero, Option.some.injEq, List.cons.injEq, V.int.injEq, V.str.injEq, V.bl.injEq, V.ref.injEq, and_true, true_and, exists_eq_left, exists_eq_left', exists_eq_right, exists_eq_right', exists_eq, exists_and_left, exists_and_right, and_assoc, exists_false, false_and, and_false, or_false, false_or, reduceCtorEq, Nat.reduceAdd, Nat.reduceSub, List.append_assoc, eq_self, if_true, if_false, Bool.false_eq_true, decide_eq_true_eq, List.length_cons, List.length_nil]
    refine ⟨_, ha, _, rfl, _, hb, _, rfl, _, rfl, _, rfl, mulOk_w sx.1 sy.2 (by omega) (by omega) (by omega), _, hb, _, rfl, _, ha, _, rfl, _, rfl, _, rfl, mulOk_w sy.1 sx.2 (by omega) (by omega) (by omega), k⟩
theorem ok_is_before (W : Ds K mg) : FnOk P w K mg base CX0 1 W.f_is_before W.fd_is_before P_is_before (sp_is_before K) := by
  refine W.D_is_before.F.ok sc_is_before (fun vs H Q E h => ?len) (fun cdv A outer s H vs Q E hr h => ?body)
  case len =>
    obtain ⟨v, u, x, y, rfl, _⟩ := h
    rfl
  case body =>
    obtain ⟨v, u, x, y, rfl, hx, hy, sx, sy, k⟩ := h
    obtain ⟨a, rfl, ha⟩ := pt_of hx
    obtain ⟨b, rfl, hb⟩ := pt_of hy
    have nd := sc_is_before.nd
    have hu := hu_of hr
    have hu64 := hr.units
    have hu65 := hu65_of hr
    refine ⟨_, (pss_one (ps_ret (pe_cmpR op_lt (pe_op op_mulK (pe_ix (k_ixT K) (pv 0) pe_int (fun _ _ => rfl)) (pe_ix (k_ixT K) (pv 1) pe_int (fun _ _ => rfl))) (pe_op op_mulK (pe_ix (k_ixT K) (pv 1) pe_int (fun _ _ => rfl)) (pe_ix (k_ixT K) (pv 0) pe_int (fun _ _ => rfl))) (nomark _)))), ?_⟩
    simp only [tSeq, tIfS, tNext, tRet, tRetN, tAsg, tDrop, tPar, tCons, tNil, tCB, tVar, tC, tOp, rI, rI0, rU, tTest, tB, tTup, tLst, gName, tIf, tAnd, tOr, tNot, tAndV, tOrV, tNotV, tUn, tCall, tChain, tSl, tNoPart, tPart, tBM, tBM0, tDGet, sDPut, tAugS, ipI, rIxT, rIxL, rMulK, rLenK, rLstK, tTruK, gTup, gCons, gNil, rEq, rNe, scal, tNever, rMulK, rGcd, L2.start, List.map, List.length, List.replicate, List.cons_append, List.nil_append, List.append_nil, List.set, List.set_cons_zero, List.set_cons_succ, List.getElem?_cons_succ, List.getElem?_cons_zero, Option.some.injEq, List.cons.injEq, V.int.injEq, V.str.injEq, V.bl.injEq, V.ref.injEq, and_true, true_and, exists_eq_left, exists_eq_left', exists_eq_right, exists_eq_right', exists_eq, exists_and_left, exists_and_right, and_assoc, exists_false, false_and, and_false, or_false, false_or, reduceCtorEq, Nat.reduceAdd, Nat.reduceSub, List.append_assoc, eq_self, if_true, if_false, Bool.false_eq_true, decide_eq_true_eq, List.length_cons, List.length_nil]
    refine ⟨_, ha, _, rfl, _, hb, _, rfl, _, rfl, _, rfl, mulOk_w sx.1 sy.2 (by omega) (by omega) (by omega), _, hb, _, rfl, _, ha, _, rfl, _, rfl, _, rfl, mulOk_w sy.1 sx.2 (by omega) (by omega) (by omega), k⟩
/-! ### make_point -/
def sp_make_point (K : PySem.W.Frag) : Sp := fun vs H Q _ => ∃ p q : Int, vs = [.int p, .int q] ∧ 0 < q ∧ q.natAbs < 2 ^ 8000 ∧
  ∀ (v : V) (H' : Hp), Kp M0 H H' → Dp K H' v (ptD (normP p q)) → Q v H'
theorem ok_make_point (W : Ds K mg) : FnOk P w K mg base CX0 1 W.f_make_point W.fd_make_point P_make_point (sp_make_point K) := by
  refine W.D_make_point.F.ok sc_make_point (fun vs H Q E h => ?len) (fun cdv A outer s H vs Q E hr h => ?body)
  case len =>
    obtain ⟨p, q, rfl, _⟩ := h
    rfl
  case body =>
    obtain ⟨p, q, rfl, hq, hb, k⟩ := h
    have nd := sc_make_point.nd
    have hu := hu_of hr
    have hu64 := hr.units
    have hu65 := hu65_of hr
    refine ⟨_, (pss_cons (ps_if (pt_cmpR op_eq (pv 1) pe_int (nomark _))
     (pss_one ps_never)
     pss_nil)
  (pss_cons (ps_set (i := 2) nd rfl (by first | exact Or.inl rfl | exact Or.inr rfl) (pe_ifExp (pt_cmpR op_gt (pv 1) pe_int (nomark _)) (pe_callBfun cr_gcd (by rfl) W.T.i_gcd (pa_cons (pv 0) (pa_cons (pv 1) pa_nil))) (pe_un un_neg (pe_callBfun cr_gcd (by rfl) W.T.i_gcd (pa_cons (pv 0) (pa_cons (pv 1) pa_nil))))))
  (pss_one (ps_ret (pe_tup (pa_cons (pe_op op_fdivW (pv 0) (pv 2)) (pa_cons (pe_op op_fdivW (pv 1) (pv 2)) pa_nil))))))), ?_⟩
    simp only [tSeq, tIfS, tNext, tRet, tRetN, tAsg, tDrop, tPar, tCons, tNil, tCB, tVar, tC, tOp, rI, rI0, rU, tTest, tB, tTup, tLst, gName, tIf, tAnd, tOr, tNot, tAndV, tOrV, tNotV, tUn, tCall, tChain, tSl, tNoPart, tPart, tBM, tBM0, tDGet, sDPut, tAugS, ipI, rIxT, rIxL, rMulK, rLenK, rLstK, tTruK, gTup, gCons, gNil, rEq, rNe, scal, tNever, rMulK, rGcd, L2.start, List.map, List.length, List.replicate, List.cons_append, List.nil_append, List.append_nil, List.set, List.set_cons_zero, List.set_cons_succ, List.getElem?_cons_succ, List.getElem?_cons_zero, Option.some.injEq, List.cons.injEq, V.int.injEq, V.str.injEq, V.bl.injEq, V.ref.injEq, and_true, true_and, exists_eq_left, exists_eq_left', exists_eq_right, exists_eq_right', exists_eq, exists_and_left, exists_and_right, and_assoc, exists_false, false_and, and_false, or_false, false_or, reduceCtorEq, Nat.reduceAdd, Nat.reduceSub, List.append_assoc, eq_self, if_true, if_false, Bool.false_eq_true, decide_eq_true_eq, List.length_cons, List.length_nil]
    have hgp := gcd_pos' (p := p) hq
    have hgl : Int.gcd p q ≤ q.natAbs := Int.gcd_le_natAbs_right p (by omega)
    have hw : ∀ i, CDivW i (Int.gcd p q : Int) := fun i => wide_div hgp (b := 8000) (by rw [Int.natAbs_natCast]; omega) (by omega) (by omega)
    refine ite2 (fun z => by omega) (fun _ => ?_)
    refine ite2 (fun _ => ?_) (fun z => by omega)
    exact ⟨hw p, hw q, by decide, fun t ht => k _ _ (Kp.new ht) (pt_mk (Or.inl (Or.inl upd_same)))⟩

/-! ### between -/
def betP (a b : Pt) (i n : Int) : Pt := normP (a.1 * b.2 * n + (b.1 * a.2 - a.1 * b.2) * i) (a.2 * b.2 * n)
def sp_between (K : PySem.W.Frag) : Sp := fun vs H Q _ => ∃ (v u : V) (a b : Pt) (i n : Int), vs = [v, u, .int i, .int n] ∧ Dp K H v (ptD a) ∧ Dp K H u (ptD b) ∧ PtOk a ∧ PtOk b ∧ Sz 1000 a ∧ Sz 1000 b ∧ 0 ≤ i ∧ i < 2 ^ 60 ∧ 0 < n ∧ n < 2 ^ 60 ∧
  ∀ (v : V) (H' : Hp), Kp M0 H H' → Dp K H' v (ptD (betP a b i n)) → Q v H'
theorem ok_between (W : Ds K mg) : FnOk P w K mg base CX0 2 W.f_between W.fd_between P_between (sp_between K) := by
  refine W.D_between.F.ok sc_between (fun vs H Q E h => ?len) (fun cdv A outer s H vs Q E hr h => ?body)
  case len =>
    obtain ⟨v, u, a, b, i, n, rfl, _⟩ := h
    rfl
  case body =>
    obtain ⟨v, u, x, y, i, n, rfl, hx, hy, ox, oy, sx, sy, hi0, hi1, hn0, hn1, k⟩ := h
    obtain ⟨a, rfl, ha⟩ := pt_of hx
    obtain ⟨b, rfl, hb⟩ := pt_of hy
    have nd := sc_between.nd
    have hu := hu_of hr
    have hu64 := hr.units
    have hu65 := hu65_of hr
    refine ⟨_, (pss_cons (ps_set (i := 4) nd rfl (by first | exact Or.inl rfl | exact Or.inr rfl) (pe_op op_mulK (pe_ix (k_ixT K) (pv 0) pe_int (fun _ _ => rfl)) (pe_ix (k_ixT K) (pv 1) pe_int (fun _ _ => rfl))))
  (pss_cons (ps_set (i := 5) nd rfl (by first | exact Or.inl rfl | exact Or.inr rfl) (pe_op op_sub (pe_op op_mulK (pe_ix (k_ixT K) (pv 1) pe_int (fun _ _ => rfl)) (pe_ix (k_ixT K) (pv 0) pe_int (fun _ _ => rfl))) (pv 4)))
  (pss_one (ps_ret (pe_call (ok_make_point W) (hr.mono (by first | decide | omega)) rfl W.D_make_point.g W.D_make_point.F.kp W.D_make_point.b .nil pass0 (pa_cons (pe_op op_add (pe_op op_mulK (pv 4) (pv 3)) (pe_op op_mulK (pv 5) (pv 2))) (pa_cons (pe_op op_mulK (pe_op op_mulK (pe_ix (k_ixT K) (pv 0) pe_int (fun _ _ => rfl)) (pe_ix (k_ixT K) (pv 1) pe_int (fun _ _ => rfl))) (pv 3)) pa_nil))))))), ?_⟩
    simp only [tSeq, tIfS, tNext, tRet, tRetN, tAsg, tDrop, tPar, tCons, tNil, tCB, tVar, tC, tOp, rI, rI0, rU, tTest, tB, tTup, tLst, gName, tIf, tAnd, tOr, tNot, tAndV, tOrV, tNotV, tUn, tCall, tChain, tSl, tNoPart, tPart, tBM, tBM0, tDGet, sDPut, tAugS, ipI, rIxT, rIxL, rMulK, rLenK, rLstK, tTruK, gTup, gCons, gNil, rEq, rNe, scal, tNever, rMulK, rGcd, L2.start, List.map, List.length, List.replicate, List.cons_append, List.nil_append, List.append_nil, List.set, List.set_cons_zero, List.set_cons_succ, List.getElem?_cons_succ, List.getElem?_cons_zero, Option.some.injEq, List.cons.injEq, V.int.injEq, V.str.injEq, V.bl.injEq, V.ref.injEq, and_true, true_and, exists_eq_left, exists_eq_left', exists_eq_right, exists_eq_right', exists_eq, exists_and_left, exists_and_right, and_assoc, exists_false, false_and, and_false, or_false, false_or, reduceCtorEq, Nat.reduceAdd, Nat.reduceSub, List.append_assoc, eq_self, if_true, if_false, Bool.false_eq_true, decide_eq_true_eq, List.length_cons, List.length_nil]
    have b1 : (x.1 * y.2).natAbs < 2 ^ 2000 := abs_mul_lt sx.1 sy.2
    have b2 : (y.1 * x.2).natAbs < 2 ^ 2000 := abs_mul_lt sy.1 sx.2
    have b3 : (x.2 * y.2).natAbs < 2 ^ 2000 := abs_mul_lt sx.2 sy.2
    have bi : i.natAbs < 2 ^ 60 := by omega
    have bn : n.natAbs < 2 ^ 60 := by omega
    have b4 : (x.2 * y.2 * n).natAbs < 2 ^ 8000 := abs_mono (abs_mul_lt b3 bn) (by omega)
    (repeat (first | refine ⟨_, ha, ?_⟩ | refine ⟨_, hb, ?_⟩ | refine ⟨_, rfl, ?_⟩))
    refine ⟨mulOk_w sx.1 sy.2 (by omega) (by omega) (by omega), ?_⟩
    (repeat (first | refine ⟨_, ha, ?_⟩ | refine ⟨_, hb, ?_⟩ | refine ⟨_, rfl, ?_⟩))
    refine ⟨mulOk_w sy.1 sx.2 (by omega) (by omega) (by omega), mulOk_r (by omega) (by omega), mulOk_r (by omega) (by omega), ?_⟩
    (repeat (first | refine ⟨_, ha, ?_⟩ | refine ⟨_, hb, ?_⟩ | refine ⟨_, rfl, ?_⟩))
    refine ⟨mulOk_w sx.2 sy.2 (by omega) (by omega) (by omega), mulOk_r (by omega) (by omega), _, _, rfl, ?_, b4, k⟩
    exact Int.mul_pos (Int.mul_pos ox.pos oy.pos) hn0

/-! ### code_of -/
theorem seq_ix {K : PySem.W.Frag} {H : Hp} {a : Addr} {vs : List V} {i : Nat} {v : V} {Q : VK} (h : SqL K H a vs ∨ SqT K H a vs) (hi : vs[i]? = some v) (q : Q v H) : rIx K (.ref a) (.int (i : Nat)) H Q := by
  rcases h with h | h
  · exact Or.inl ⟨a, vs, _, v, rfl, rfl, h, atI_nat hi, q⟩
  · exact Or.inr (Or.inl ⟨a, vs, _, v, rfl, rfl, h, atI_nat hi, q⟩)
/-- how many points are less -/
def lessN (l : List Pt) (y : Pt) : Nat := (l.filter fun x => decide (ltP x y)).length
def codeP (l : List Pt) (y : Pt) : Nat := if l[lessN l y]? = some y then 2 * lessN l y + 1 else 2 * lessN l y
theorem lessN_eq {l : List Pt} {y : Pt} {k : Nat} (hk : k ≤ l.length) (h1 : ∀ i x, i < k → l[i]? = some x → ltP x y) (h2 : ∀ i x, k ≤ i → l[i]? = some x → ¬ ltP x y) : lessN l y = k := by
  have e : l = l.take k ++ l.drop k := (List.take_append_drop k l).symm
  unfold lessN
  rw [e, List.filter_append]
  have e1 : (l.take k).filter (fun x => decide (ltP x y)) = l.take k := List.filter_eq_self.mpr fun x hx => by
    obtain ⟨i, hi⟩ := List.getElem?_of_mem hx
    have hik : i < k := by
      have := (List.getElem?_eq_some_iff.mp hi).1
      rw [List.length_take] at this; omega
    rw [List.getElem?_take_of_lt hik] at hi
    exact decide_eq_true (h1 i x hik hi)
  have e2 : (l.drop k).filter (fun x => decide (ltP x y)) = [] := List.filter_eq_nil_iff.mpr fun x hx => by
    obtain ⟨i, hi⟩ := List.getElem?_of_mem hx
    rw [List.getElem?_drop] at hi
    have := h2 (k + i) x (by omega) hi
    simp [this]
  rw [e1, e2, List.append_nil, List.length_take]
  omega
structure PtsOk (b : Nat) (l : List Pt) : Prop where
  ok : ∀ x ∈ l, PtOk x
  sz : ∀ x ∈ l, Sz b x
  asc : Asc l
theorem asc_get {l : List Pt} (h : Asc l) {i j : Nat} {x y : Pt} (hij : i < j) (hi : l[i]? = some x) (hj : l[j]? = some y) : ltP x y := by
  obtain ⟨h1, rfl⟩ := List.getElem?_eq_some_iff.mp hi
  obtain ⟨h2, rfl⟩ := List.getElem?_eq_some_iff.mp hj
  exact List.pairwise_iff_getElem.mp h i j h1 h2 hij
def sp_code_of (K : PySem.W.Frag) : Sp := fun vs H Q _ => ∃ (a : Addr) (u : V) (ws : List V) (l : List Pt) (y : Pt), vs = [.ref a, u] ∧ (SqL K H a ws ∨ SqT K H a ws) ∧ DpAll K H ws (l.map ptD) ∧ Dp K H u (ptD y) ∧ PtsOk 4000 l ∧ PtOk y ∧ Sz 4000 y ∧ l.length < 1000000 ∧
  Q (.int (codeP l y : Nat)) H
theorem ok_code_of (W : Ds K mg) : FnOk P w K mg base CX0 2 W.f_code_of W.fd_code_of P_code_of (sp_code_of K) := by
  refine W.D_code_of.F.ok sc_code_of (fun vs H Q E h => ?len) (fun cdv A outer s H vs Q E hr h => ?body)
  case len =>
    obtain ⟨a, u, ws, l, y, rfl, _⟩ := h
    rfl
  case body =>
    obtain ⟨a, u, ws, l, y, rfl, hseq, hws, hy, hl, oy, sy, hlen, k⟩ := h
    have nd := sc_code_of.nd
    have hu := hu_of hr
    have hu64 := hr.units
    have hu65 := hu65_of hr
    refine ⟨_, (pss_cons (ps_par (i := 2) (j := 3) rfl nd rfl rfl (by decide) rfl rfl (pa_cons pe_int (pa_cons (pe_callB (c_len K) (by rfl) W.T.b_len (by decide +kernel) (pa_cons (pv 0) pa_nil)) pa_nil)) (by rfl))
  (pss_cons (ps_while PassesOwn.never (pt_cmpR op_lt (pv 2) (pv 3) (nomark _))
     (pss_cons (ps_set (i := 4) nd rfl (by first | exact Or.inl rfl | exact Or.inr rfl) (pe_op op_fdivW (pe_op op_add (pv 2) (pv 3)) pe_int))
      (pss_one (ps_if (pt_val (pe_call (ok_is_before W) (hr.mono (by first | decide | omega)) rfl W.D_is_before.g W.D_is_before.F.kp W.D_is_before.b .nil pass0 (pa_cons (pe_ix (k_ixS K) (pv 0) (pv 4) (fun _ _ => rfl)) (pa_cons (pv 1) pa_nil))))
         (pss_one (ps_set (i := 2) nd rfl (by first | exact Or.inl rfl | exact Or.inr rfl) (pe_op op_add (pv 4) pe_int)))
         (pss_one (ps_set (i := 3) nd rfl (by first | exact Or.inl rfl | exact Or.inr rfl) (pv 4)))))))
  (pss_cons (ps_if (PW.pt (pw_and (pt_cmpR op_lt (pv 2) (pe_callB (c_len K) (by rfl) W.T.b_len (by decide +kernel) (pa_cons (pv 0) pa_nil)) (nomark _)) (pw_and1 (pt_cmpR (k_eqD K hu64) (pe_ix (k_ixS K) (pv 0) (pv 2) (fun _ _ => rfl)) (pv 1) (nomark _)))))
     (pss_one (ps_ret (pe_op op_add (pe_op op_mulK pe_int (pv 2)) pe_int)))
     pss_nil)
  (pss_one (ps_ret (pe_op op_mulK pe_int (pv 2))))))), ?_⟩
    simp only [tSeq, tIfS, tNext, tRet, tRetN, tAsg, tDrop, tPar, tCons, tNil, tCB, tVar, tC, tOp, rI, rI0, rU, tTest, tB, tTup, tLst, gName, tIf, tAnd, tOr, tNot, tAndV, tOrV, tNotV, tUn, tCall, tChain, tSl, tNoPart, tPart, tBM, tBM0, tDGet, sDPut, tAugS, ipI, rIxT, rIxL, rMulK, rLenK, rLstK, tTruK, gTup, gCons, gNil, rEq, rNe, scal, tNever, rMulK, rGcd, L2.start, List.map, List.length, List.replicate, List.cons_append, List.nil_append, List.append_nil, List.set, List.set_cons_zero, List.set_cons_succ, List.getElem?_cons_succ, List.getElem?_cons_zero, Option.some.injEq, List.cons.injEq, V.int.injEq, V.str.injEq, V.bl.injEq, V.ref.injEq, and_true, true_and, exists_eq_left, exists_eq_left', exists_eq_right, exists_eq_right', exists_eq, exists_and_left, exists_and_right, and_assoc, exists_false, false_and, and_false, or_false, false_or, reduceCtorEq, Nat.reduceAdd, Nat.reduceSub, List.append_assoc, eq_self, if_true, if_false, Bool.false_eq_true, decide_eq_true_eq, List.length_cons, List.length_nil]
    have wlen : ws.length = l.length := by rw [dps_len hws, List.length_map]
    have item : ∀ (i : Nat) (x : Pt), l[i]? = some x → ∃ v, ws[i]? = some v ∧ Dp K H v (ptD x) := fun i x hx => dps_get' hws (by rw [List.getElem?_map, hx]; rfl)
    refine ⟨ws, hseq, ?_⟩
    refine while_at (fun σ H' => H' = H ∧ ∃ (lo hi : Nat) (m : Option V), σ = [some (.ref a), some u, some (.int lo), some (.int hi), m] ∧ lo ≤ hi ∧ hi ≤ l.length ∧ (∀ i x, i < lo → l[i]? = some x → ltP x y) ∧ (∀ i x, hi ≤ i → l[i]? = some x → ¬ ltP x y))
      (fun σ _ => match σ with | [_, _, some (.int lo), some (.int hi), _] => (hi - lo).toNat | _ => 0) ⟨rfl, 0, ws.length, none, rfl, by omega, by omega, fun i x h => by omega, fun i x h e => ?_⟩ ?_
    · have := (List.getElem?_eq_some_iff.mp e).1
      omega
    rintro σ H' ⟨rfl, lo, hi, m, rfl, h1, h2, h3, h4⟩
    simp only [tSeq, tIfS, tNext, tRet, tRetN, tAsg, tDrop, tPar, tCons, tNil, tCB, tVar, tC, tOp, rI, rI0, rU, tTest, tB, tTup, tLst, gName, tIf, tAnd, tOr, tNot, tAndV, tOrV, tNotV, tUn, tCall, tChain, tSl, tNoPart, tPart, tBM, tBM0, tDGet, sDPut, tAugS, ipI, rIxT, rIxL, rMulK, rLenK, rLstK, tTruK, gTup, gCons, gNil, rEq, rNe, scal, tNever, rMulK, rGcd, L2.start, List.map, List.length, List.replicate, List.cons_append, List.nil_append, List.append_nil, List.set, List.set_cons_zero, List.set_cons_succ, List.getElem?_cons_succ, List.getElem?_cons_zero, Option.some.injEq, List.cons.injEq, V.int.injEq, V.str.injEq, V.bl.injEq, V.ref.injEq, and_true, true_and, exists_eq_left, exists_eq_left', exists_eq_right, exists_eq_right', exists_eq, exists_and_left, exists_and_right, and_assoc, exists_false, false_and, and_false, or_false, false_or, reduceCtorEq, Nat.reduceAdd, Nat.reduceSub, List.append_assoc, eq_self, if_true, if_false, Bool.false_eq_true, decide_eq_true_eq, List.length_cons, List.length_nil]
    refine ite2 (fun c => ?_) (fun c => ?_)
    · refine ⟨_, fun _ _ h => h, wide_div (b := 2) (by omega) (by decide) (by omega) (by omega), ?_⟩
      have hm : ((lo : Int) + (hi : Int)) / 2 = (((lo + hi) / 2 : Nat) : Int) := by omega
      rw [hm]
      have hmid : (lo + hi) / 2 < l.length := by omega
      have hx : l[(lo + hi) / 2]? = some l[(lo + hi) / 2] := List.getElem?_eq_getElem hmid
      obtain ⟨v, hv, dv⟩ := item _ _ hx
      have hmem := List.mem_of_getElem? hx
      refine seq_ix hseq hv ?_
      refine ⟨v, u, _, y, rfl, dv, hy, hl.sz _ hmem, sy, _, rfl, ?_⟩
      refine ite2 (fun g => ?_) (fun g => ?_)
      · have g' : ltP (l[(lo + hi) / 2]) y := by simpa using g
        refine ⟨rfl, ⟨(lo + hi) / 2 + 1, hi, ⟨some (.int (((lo + hi) / 2 : Nat) : Int)), rfl⟩, by omega, h2, fun i x hi' e => ?_, h4⟩, ?_⟩
        · by_cases q : i = (lo + hi) / 2
          · subst q; rw [hx] at e; cases e; exact g'
          · have hl' : i < (lo + hi) / 2 := by omega
            exact lt_trans (hl.ok _ (List.mem_of_getElem? e)).pos (hl.ok _ hmem).pos oy.pos (asc_get hl.asc hl' e hx) g'
        · show ((hi : Int) - ((((lo + hi) / 2 : Nat) : Int) + 1)).toNat < ((hi : Int) - (lo : Int)).toNat
          omega
      · have g' : ¬ ltP (l[(lo + hi) / 2]) y := by simpa using g
        refine ⟨rfl, ⟨lo, (lo + hi) / 2, ⟨some (.int (((lo + hi) / 2 : Nat) : Int)), rfl⟩, by omega, by omega, h3, fun i x hi' e => ?_⟩, ?_⟩
        · by_cases q : i = (lo + hi) / 2
          · subst q; rw [hx] at e; cases e; exact g'
          · have hl' : (lo + hi) / 2 < i := by omega
            intro z
            exact g' (lt_trans (hl.ok _ hmem).pos (hl.ok _ (List.mem_of_getElem? e)).pos oy.pos (asc_get hl.asc hl' hx e) z)
        · show ((((lo + hi) / 2 : Nat) : Int) - (lo : Int)).toNat < ((hi : Int) - (lo : Int)).toNat
          omega
    · have e0 : lo = hi := by omega
      subst e0
      have en : lessN l y = lo := lessN_eq h2 h3 h4
      have ec : ¬ l[lo]? = some y → codeP l y = 2 * lo := fun z => by unfold codeP; rw [en, if_neg z]
      refine ⟨ws, hseq, ?_⟩
      have q2 : Q (.int (2 * (lo : Int))) H' ∨ l[lo]? = some y := by
        by_cases z : l[lo]? = some y
        · exact Or.inr z
        · rw [ec z] at k
          exact Or.inl (by simpa using k)
      refine ite2 (fun g => ?_) (fun g => ?_)
      · have hlt : lo < l.length := by omega
        have hx : l[lo]? = some l[lo] := List.getElem?_eq_getElem hlt
        obtain ⟨v, hv, dv⟩ := item _ _ hx
        refine seq_ix hseq hv ⟨_, _, dv, hy, ptD_shaped _, ptD_shaped _, ?_⟩
        rw [ptD_eqv]
        refine ⟨_, rfl, ite2 (fun g2 => ?_) (fun g2 => ?_)⟩
        · have g3 : l[lo] = y := by simpa using g2
          refine ⟨mulOk_l (by omega) (by omega), ?_⟩
          have : codeP l y = 2 * lo + 1 := by unfold codeP; rw [en, if_pos (by rw [hx, g3])]
          rw [this] at k
          simpa using k
        · have g3 : ¬ l[lo] = y := by simpa using g2
          refine ⟨mulOk_l (by omega) (by omega), ?_⟩
          rcases q2 with q | q
          · exact q
          · rw [hx] at q; cases q; exact absurd rfl g3
      · refine ⟨mulOk_l (by omega) (by omega), ?_⟩
        rcases q2 with q | q
        · exact q
        · have := (List.getElem?_eq_some_iff.mp q).1
          omega

/-! ### gap_of -/
def gapV (l : List Pt) (y : Pt) : V := if codeP l y % 2 = 1 then .non else .int ((codeP l y / 2 : Nat) : Int)
def gapD (l : List Pt) (y : Pt) : PyData := if codeP l y % 2 = 1 then .none else .int ((codeP l y / 2 : Nat) : Int)
theorem gapVD {K : PySem.W.Frag} {H : Hp} {l : List Pt} {y : Pt} : Dp K H (gapV l y) (gapD l y) := by
  unfold gapV gapD
  split
  · exact .non
  · exact .int _
def sp_gap_of (K : PySem.W.Frag) : Sp := fun vs H Q _ => ∃ (a : Addr) (u : V) (ws : List V) (l : List Pt) (y : Pt), vs = [.ref a, u] ∧ (SqL K H a ws ∨ SqT K H a ws) ∧ DpAll K H ws (l.map ptD) ∧ Dp K H u (ptD y) ∧ PtsOk 4000 l ∧ PtOk y ∧ Sz 4000 y ∧ l.length < 1000000 ∧
  Q (gapV l y) H
theorem ok_gap_of (W : Ds K mg) : FnOk P w K mg base CX0 3 W.f_gap_of W.fd_gap_of P_gap_of (sp_gap_of K) := by
  refine W.D_gap_of.F.ok sc_gap_of (fun vs H Q E h => ?len) (fun cdv A outer s H vs Q E hr h => ?body)
  case len =>
    obtain ⟨a, u, ws, l, y, rfl, _⟩ := h
    rfl
  case body =>
    obtain ⟨a, u, ws, l, y, rfl, hseq, hws, hy, hl, oy, sy, hlen, k⟩ := h
    have nd := sc_gap_of.nd
    have hu := hu_of hr
    have hu64 := hr.units
    have hu65 := hu65_of hr
    refine ⟨_, (pss_cons (ps_set (i := 2) nd rfl (by first | exact Or.inl rfl | exact Or.inr rfl) (pe_call (ok_code_of W) (hr.mono (by first | decide | omega)) rfl W.D_code_of.g W.D_code_of.F.kp W.D_code_of.b .nil pass0 (pa_cons (pv 0) (pa_cons (pv 1) pa_nil))))
  (pss_one (ps_ret (pe_ifExp (p_truth K (pe_op op_mod (pv 2) pe_int) (by intro _; rfl)) pe_non (pe_op op_fdivW (pv 2) pe_int))))), ?_⟩
    simp only [tSeq, tIfS, tNext, tRet, tRetN, tAsg, tDrop, tPar, tCons, tNil, tCB, tVar, tC, tOp, rI, rI0, rU, tTest, tB, tTup, tLst, gName, tIf, tAnd, tOr, tNot, tAndV, tOrV, tNotV, tUn, tCall, tChain, tSl, tNoPart, tPart, tBM, tBM0, tDGet, sDPut, tAugS, ipI, rIxT, rIxL, rMulK, rLenK, rLstK, tTruK, gTup, gCons, gNil, rEq, rNe, scal, tNever, rMulK, rGcd, L2.start, List.map, List.length, List.replicate, List.cons_append, List.nil_append, List.append_nil, List.set, List.set_cons_zero, List.set_cons_succ, List.getElem?_cons_succ, List.getElem?_cons_zero, Option.some.injEq, List.cons.injEq, V.int.injEq, V.str.injEq, V.bl.injEq, V.ref.injEq, and_true, true_and, exists_eq_left, exists_eq_left', exists_eq_right, exists_eq_right', exists_eq, exists_and_left, exists_and_right, and_assoc, exists_false, false_and, and_false, or_false, false_or, reduceCtorEq, Nat.reduceAdd, Nat.reduceSub, List.append_assoc, eq_self, if_true, if_false, Bool.false_eq_true, decide_eq_true_eq, List.length_cons, List.length_nil]
    refine ⟨a, u, ws, l, y, rfl, hseq, hws, hy, hl, oy, sy, hlen, ?_⟩
    refine ⟨_, rfl, by omega, _, rfl, ?_⟩
    unfold gapV at k
    have e2 : ((codeP l y : Nat) : Int) % 2 = 0 ∨ ((codeP l y : Nat) : Int) % 2 = 1 := by omega
    refine ite2 (fun g => ?_) (fun g => ?_)
    · have g' : ((codeP l y : Nat) : Int) % 2 ≠ 0 := by simpa using g
      rw [if_pos (by omega)] at k
      exact k
    · have g' : ((codeP l y : Nat) : Int) % 2 = 0 := by simpa using g
      rw [if_neg (by omega)] at k
      refine ⟨_, rfl, wide_div (b := 2) (by omega) (by decide) (by omega) (by omega), ?_⟩
      rw [show ((codeP l y : Nat) : Int) / 2 = ((codeP l y / 2 : Nat) : Int) by omega]
      exact k
end
end G
set_option Elab.async false
set_option linter.all false
set_option maxRecDepth 100000
set_option exponentiation.threshold 10000
namespace G
open PySem L2
def atP (l : List Pt) (i : Nat) : Pt := l.getD i (0, 1)
def spreadI (l : List Pt) (gap n i : Nat) : Pt :=
  if l.length = 0 then ((i : Int), 1)
  else if gap = 0 then ((atP l 0).1 + ((i : Int) - n) * (atP l 0).2, (atP l 0).2)
  else if gap = l.length then ((atP l (l.length - 1)).1 + ((i : Int) + 1) * (atP l (l.length - 1)).2, (atP l (l.length - 1)).2)
  else betP (atP l (gap - 1)) (atP l gap) ((i : Int) + 1) ((n : Int) + 1)
def spreadP (l : List Pt) (gap n : Nat) : List Pt := (List.range n).map (spreadI l gap n)
theorem atP_some {l : List Pt} {i : Nat} (h : i < l.length) : l[i]? = some (atP l i) := by
  unfold atP
  rw [List.getD_eq_getElem?_getD, List.getElem?_eq_getElem h]; rfl
theorem atI_last {α : Type} {xs : List α} (h : 0 < xs.length) : atI xs (-1) = xs[xs.length - 1]? := by
  unfold atI ixN
  rw [if_neg (by omega), if_pos (by omega)]
  show xs[((-1 : Int) + (xs.length : Int)).toNat]? = _
  rw [show ((-1 : Int) + (xs.length : Int)).toNat = xs.length - 1 by omega]
section
variable {P : Program} {w : World} {K : PySem.W.Frag} {mg : Str → Option Value} {base : Heap}
theorem pts_item {H : Hp} {ws : List V} {l : List Pt} (h : DpAll K H ws (l.map ptD)) {i : Nat} (hi : i < l.length) : ∃ v, ws[i]? = some v ∧ Dp K H v (ptD (atP l i)) :=
  dps_get' h (by rw [List.getElem?_map, atP_some hi]; rfl)

def sp_spread (K : PySem.W.Frag) : Sp := fun vs H Q _ => ∃ (a : Addr) (ws : List V) (l : List Pt) (gap n : Nat), vs = [.ref a, .int gap, .int n] ∧ SqT K H a ws ∧ DpAll K H ws (l.map ptD) ∧ PtsOk 1000 l ∧ l.length < 1000 ∧ gap ≤ l.length ∧ n < 1000 ∧
  ∀ (D : Addr) (H' : Hp) (us : List V), H D = none → Kp M0 H H' → H' D = some (.lst us) → DpAll K H' us ((spreadP l gap n).map ptD) → Q (.ref D) H'
theorem ok_spread (W : Ds K mg) : FnOk P w K mg base CX0 4 W.f_spread W.fd_spread P_spread (sp_spread K) := by
  refine W.D_spread.F.ok sc_spread (fun vs H Q E h => ?len) (fun cdv A outer s H vs Q E hr h => ?body)
  case len =>
    obtain ⟨a, ws, l, gap, n, rfl, _⟩ := h
    rfl
  case body =>
    obtain ⟨a, ws, l, gap, n, rfl, hT, hws, hl, hlen, hgap, hn, k⟩ := h
    have wlen : ws.length = l.length := by rw [dps_len hws, List.length_map]
    have nd := sc_spread.nd
    have hu := hu_of hr
    have hu64 := hr.units
    have hu65 := hu65_of hr
    refine ⟨_, (pss_cons (ps_if (pt_not (p_truth K (pv 0) (by intro _; rfl)))
     (pss_one (ps_ret (pe_lc (own := [("i", 3)]) rfl nd (pi_range1 rfl W.T.b_range (pa_cons (pv 2) pa_nil)) (blkOk_by (N := N_spread) (sc := defScope s_spread) (by decide +kernel)) (fun _ _ _ _ _ => (pg_name (i := 3) nd rfl (by first | exact Or.inl rfl | exact Or.inr rfl))) (fun _ _ _ _ _ => pts_nil) (fun _ _ _ _ _ => (pe_tup (pa_cons (pv 3) (pa_cons pe_int pa_nil)))))))
     pss_nil)
  (pss_cons (ps_if (pt_cmpR op_eq (pv 1) pe_int (nomark _))
     (pss_cons (ps_asg (pe_ix (k_ixT K) (pv 0) pe_int (fun _ _ => rfl)) (g_tup K (pg_tup (n := 2) rfl (pgs_cons (pg_name (i := 4) nd rfl (by first | exact Or.inl rfl | exact Or.inr rfl)) (pgs_cons (pg_name (i := 5) nd rfl (by first | exact Or.inl rfl | exact Or.inr rfl)) pgs_nil)))))
      (pss_one (ps_ret (pe_lc (own := [("i", 3)]) rfl nd (pi_range1 rfl W.T.b_range (pa_cons (pv 2) pa_nil)) (blkOk_by (N := N_spread) (sc := defScope s_spread) (by decide +kernel)) (fun _ _ _ _ _ => (pg_name (i := 3) nd rfl (by first | exact Or.inl rfl | exact Or.inr rfl))) (fun _ _ _ _ _ => pts_nil) (fun _ _ _ _ _ => (pe_tup (pa_cons (pe_op op_add (pv 4) (pe_op op_mulK (pe_op op_sub (pv 3) (pv 2)) (pv 5))) (pa_cons (pv 5) pa_nil))))))))
     pss_nil)
  (pss_cons (ps_if (pt_cmpR op_eq (pv 1) (pe_callB (c_len K) (by rfl) W.T.b_len (by decide +kernel) (pa_cons (pv 0) pa_nil)) (nomark _))
     (pss_cons (ps_asg (pe_ix (k_ixT K) (pv 0) (pe_un un_neg pe_int) (fun _ _ => rfl)) (g_tup K (pg_tup (n := 2) rfl (pgs_cons (pg_name (i := 4) nd rfl (by first | exact Or.inl rfl | exact Or.inr rfl)) (pgs_cons (pg_name (i := 5) nd rfl (by first | exact Or.inl rfl | exact Or.inr rfl)) pgs_nil)))))
      (pss_one (ps_ret (pe_lc (own := [("i", 3)]) rfl nd (pi_range1 rfl W.T.b_range (pa_cons (pv 2) pa_nil)) (blkOk_by (N := N_spread) (sc := defScope s_spread) (by decide +kernel)) (fun _ _ _ _ _ => (pg_name (i := 3) nd rfl (by first | exact Or.inl rfl | exact Or.inr rfl))) (fun _ _ _ _ _ => pts_nil) (fun _ _ _ _ _ => (pe_tup (pa_cons (pe_op op_add (pv 4) (pe_op op_mulK (pe_op op_add (pv 3) pe_int) (pv 5))) (pa_cons (pv 5) pa_nil))))))))
     pss_nil)
  (pss_one (ps_ret (pe_lc (own := [("i", 3)]) rfl nd (pi_range2 rfl W.T.b_range (pa_cons pe_int (pa_cons (pe_op op_add (pv 2) pe_int) pa_nil))) (blkOk_by (N := N_spread) (sc := defScope s_spread) (by decide +kernel)) (fun _ _ _ _ _ => (pg_name (i := 3) nd rfl (by first | exact Or.inl rfl | exact Or.inr rfl))) (fun _ _ _ _ _ => pts_nil) (fun _ _ _ _ _ => (pe_call (ok_between W) (hr.mono (by first | decide | omega)) rfl W.D_between.g W.D_between.F.kp W.D_between.b .nil pass0 (pa_cons (pe_ix (k_ixT K) (pv 0) (pe_op op_sub (pv 1) pe_int) (fun _ _ => rfl)) (pa_cons (pe_ix (k_ixT K) (pv 0) (pv 1) (fun _ _ => rfl)) (pa_cons (pv 3) (pa_cons (pe_op op_add (pv 2) pe_int) pa_nil)))))))))))), ?_⟩
    simp only [tSeq, tIfS, tNext, tRet, tRetN, tAsg, tDrop, tPar, tCons, tNil, tCB, tVar, tC, tOp, rI, rI0, rU, tTest, tB, tTup, tLst, gName, tIf, tAnd, tOr, tNot, tAndV, tOrV, tNotV, tUn, tCall, tChain, tSl, tNoPart, tPart, tBM, tBM0, tDGet, sDPut, tAugS, ipI, rIxT, rIxL, rMulK, rLenK, rLstK, tTruK, gTup, gCons, gNil, rEq, rNe, scal, tNever, rMulK, rGcd, L2.start, List.map, List.length, List.replicate, List.cons_append, List.nil_append, List.append_nil, List.set, List.set_cons_zero, List.set_cons_succ, List.getElem?_cons_succ, List.getElem?_cons_zero, Option.some.injEq, List.cons.injEq, V.int.injEq, V.str.injEq, V.bl.injEq, V.ref.injEq, and_true, true_and, exists_eq_left, exists_eq_left', exists_eq_right, exists_eq_right', exists_eq, exists_and_left, exists_and_right, and_assoc, exists_false, false_and, and_false, or_false, false_or, reduceCtorEq, Nat.reduceAdd, Nat.reduceSub, List.append_assoc, eq_self, if_true, if_false, Bool.false_eq_true, decide_eq_true_eq, List.length_cons, List.length_nil]
    have e0 : (spreadP l gap n).map ptD = (List.range n).map fun i => ptD (spreadI l gap n i) := by
      unfold spreadP; rw [List.map_map]; rfl
    rw [e0] at k
    refine ⟨!ws.isEmpty, Or.inr (Or.inl ⟨ws, hT, rfl⟩), ?_⟩
    refine ite2 (fun c => ?_) (fun c => ?_)
    · have l0 : l.length = 0 := by
        cases ws with
        | nil => simpa using wlen.symm
        | cons v r => simp at c
      refine tlcR ?_
      refine ⟨_, rfl, lcR (K := K) (fun i => ptD (spreadI l gap n i)) (by rw [sizeLine_eq]; omega) (fun i _ => rfl) (fun i H1 hi k1 Q' q => ?_) fun D H1 vs hD k1 hd1 ha => k D H1 vs hD k1 hd1 ha⟩
      simp only [tSeq, tIfS, tNext, tRet, tRetN, tAsg, tDrop, tPar, tCons, tNil, tCB, tVar, tC, tOp, rI, rI0, rU, tTest, tB, tTup, tLst, gName, tIf, tAnd, tOr, tNot, tAndV, tOrV, tNotV, tUn, tCall, tChain, tSl, tNoPart, tPart, tBM, tBM0, tDGet, sDPut, tAugS, ipI, rIxT, rIxL, rMulK, rLenK, rLstK, tTruK, gTup, gCons, gNil, rEq, rNe, scal, tNever, rMulK, rGcd, L2.start, List.map, List.length, List.replicate, List.cons_append, List.nil_append, List.append_nil, List.set, List.set_cons_zero, List.set_cons_succ, List.getElem?_cons_succ, List.getElem?_cons_zero, Option.some.injEq, List.cons.injEq, V.int.injEq, V.str.injEq, V.bl.injEq, V.ref.injEq, and_true, true_and, exists_eq_left, exists_eq_left', exists_eq_right, exists_eq_right', exists_eq, exists_and_left, exists_and_right, and_assoc, exists_false, false_and, and_false, or_false, false_or, reduceCtorEq, Nat.reduceAdd, Nat.reduceSub, List.append_assoc, eq_self, if_true, if_false, Bool.false_eq_true, decide_eq_true_eq, List.length_cons, List.length_nil]
      refine ⟨by decide, fun p hp => q _ _ (Kp.new hp) ?_⟩
      have : spreadI l gap n i = ((i : Int), 1) := by unfold spreadI; rw [if_pos l0]
      rw [this]
      exact pt_mk (Or.inl (Or.inl upd_same))
    have l0 : l.length ≠ 0 := fun z => by
      rw [z] at wlen
      rw [List.length_eq_zero_iff.mp wlen] at c
      simp at c
    refine ite2 (fun c1 => ?_) (fun c1 => ?_)
    · have g0 : gap = 0 := by omega
      subst g0
      obtain ⟨v, hv, dv⟩ := pts_item hws (i := 0) (by omega)
      obtain ⟨b, rfl, hb⟩ := pt_of dv
      have sx := hl.sz _ (List.mem_of_getElem? (atP_some (l := l) (i := 0) (by omega)))
      refine ⟨ws, hT, _, atI_nat (j := 0) hv, _, rfl, _, hb, rfl, _, _, rfl, _, _, rfl, rfl, ?_⟩
      refine tlcR ?_
      refine ⟨_, rfl, lcR (K := K) (fun i => ptD (spreadI l 0 n i)) (by rw [sizeLine_eq]; omega) (fun i _ => rfl) (fun i H1 hi k1 Q' q => ?_) fun D H1 vs hD k1 hd1 ha => k D H1 vs hD k1 hd1 ha⟩
      simp only [tSeq, tIfS, tNext, tRet, tRetN, tAsg, tDrop, tPar, tCons, tNil, tCB, tVar, tC, tOp, rI, rI0, rU, tTest, tB, tTup, tLst, gName, tIf, tAnd, tOr, tNot, tAndV, tOrV, tNotV, tUn, tCall, tChain, tSl, tNoPart, tPart, tBM, tBM0, tDGet, sDPut, tAugS, ipI, rIxT, rIxL, rMulK, rLenK, rLstK, tTruK, gTup, gCons, gNil, rEq, rNe, scal, tNever, rMulK, rGcd, L2.start, List.map, List.length, List.replicate, List.cons_append, List.nil_append, List.append_nil, List.set, List.set_cons_zero, List.set_cons_succ, List.getElem?_cons_succ, List.getElem?_cons_zero, Option.some.injEq, List.cons.injEq, V.int.injEq, V.str.injEq, V.bl.injEq, V.ref.injEq, and_true, true_and, exists_eq_left, exists_eq_left', exists_eq_right, exists_eq_right', exists_eq, exists_and_left, exists_and_right, and_assoc, exists_false, false_and, and_false, or_false, false_or, reduceCtorEq, Nat.reduceAdd, Nat.reduceSub, List.append_assoc, eq_self, if_true, if_false, Bool.false_eq_true, decide_eq_true_eq, List.length_cons, List.length_nil]
      refine ⟨mulOk_l (by omega) (by omega), by decide, fun p hp => q _ _ (Kp.new hp) ?_⟩
      have : spreadI l 0 n i = ((atP l 0).1 + ((i : Int) - n) * (atP l 0).2, (atP l 0).2) := by unfold spreadI; rw [if_neg l0, if_pos rfl]
      rw [this]
      exact pt_mk (Or.inl (Or.inl upd_same))
    refine ⟨ws, Or.inr hT, ?_⟩
    refine ite2 (fun c2 => ?_) (fun c2 => ?_)
    · have g0 : gap = l.length := by omega
      subst g0
      obtain ⟨v, hv, dv⟩ := pts_item hws (i := l.length - 1) (by omega)
      obtain ⟨b, rfl, hb⟩ := pt_of dv
      have sx := hl.sz _ (List.mem_of_getElem? (atP_some (l := l) (i := l.length - 1) (by omega)))
      refine ⟨ws, hT, _, (atI_last (by omega)).trans (by rw [wlen]; exact hv), _, rfl, _, hb, rfl, _, _, rfl, _, _, rfl, rfl, ?_⟩
      refine tlcR ?_
      refine ⟨_, rfl, lcR (K := K) (fun i => ptD (spreadI l l.length n i)) (by rw [sizeLine_eq]; omega) (fun i _ => rfl) (fun i H1 hi k1 Q' q => ?_) fun D H1 vs hD k1 hd1 ha => k D H1 vs hD k1 hd1 ha⟩
      simp only [tSeq, tIfS, tNext, tRet, tRetN, tAsg, tDrop, tPar, tCons, tNil, tCB, tVar, tC, tOp, rI, rI0, rU, tTest, tB, tTup, tLst, gName, tIf, tAnd, tOr, tNot, tAndV, tOrV, tNotV, tUn, tCall, tChain, tSl, tNoPart, tPart, tBM, tBM0, tDGet, sDPut, tAugS, ipI, rIxT, rIxL, rMulK, rLenK, rLstK, tTruK, gTup, gCons, gNil, rEq, rNe, scal, tNever, rMulK, rGcd, L2.start, List.map, List.length, List.replicate, List.cons_append, List.nil_append, List.append_nil, List.set, List.set_cons_zero, List.set_cons_succ, List.getElem?_cons_succ, List.getElem?_cons_zero, Option.some.injEq, List.cons.injEq, V.int.injEq, V.str.injEq, V.bl.injEq, V.ref.injEq, and_true, true_and, exists_eq_left, exists_eq_left', exists_eq_right, exists_eq_right', exists_eq, exists_and_left, exists_and_right, and_assoc, exists_false, false_and, and_false, or_false, false_or, reduceCtorEq, Nat.reduceAdd, Nat.reduceSub, List.append_assoc, eq_self, if_true, if_false, Bool.false_eq_true, decide_eq_true_eq, List.length_cons, List.length_nil]
      refine ⟨mulOk_l (by omega) (by omega), by decide, fun p hp => q _ _ (Kp.new hp) ?_⟩
      have : spreadI l l.length n i = ((atP l (l.length - 1)).1 + ((i : Int) + 1) * (atP l (l.length - 1)).2, (atP l (l.length - 1)).2) := by unfold spreadI; rw [if_neg l0, if_neg l0, if_pos rfl]
      rw [this]
      exact pt_mk (Or.inl (Or.inl upd_same))
    · have g1 : 0 < gap := by omega
      have g2 : gap < l.length := by omega
      obtain ⟨v, hv, dv⟩ := pts_item hws (i := gap - 1) (by omega)
      obtain ⟨u, hu', du⟩ := pts_item hws (i := gap) g2
      have mv := List.mem_of_getElem? (atP_some (l := l) (i := gap - 1) (by omega))
      have mu := List.mem_of_getElem? (atP_some (l := l) (i := gap) g2)
      refine tlcR2 ?_
      simp only [tSeq, tIfS, tNext, tRet, tRetN, tAsg, tDrop, tPar, tCons, tNil, tCB, tVar, tC, tOp, rI, rI0, rU, tTest, tB, tTup, tLst, gName, tIf, tAnd, tOr, tNot, tAndV, tOrV, tNotV, tUn, tCall, tChain, tSl, tNoPart, tPart, tBM, tBM0, tDGet, sDPut, tAugS, ipI, rIxT, rIxL, rMulK, rLenK, rLstK, tTruK, gTup, gCons, gNil, rEq, rNe, scal, tNever, rMulK, rGcd, L2.start, List.map, List.length, List.replicate, List.cons_append, List.nil_append, List.append_nil, List.set, List.set_cons_zero, List.set_cons_succ, List.getElem?_cons_succ, List.getElem?_cons_zero, Option.some.injEq, List.cons.injEq, V.int.injEq, V.str.injEq, V.bl.injEq, V.ref.injEq, and_true, true_and, exists_eq_left, exists_eq_left', exists_eq_right, exists_eq_right', exists_eq, exists_and_left, exists_and_right, and_assoc, exists_false, false_and, and_false, or_false, false_or, reduceCtorEq, Nat.reduceAdd, Nat.reduceSub, List.append_assoc, eq_self, if_true, if_false, Bool.false_eq_true, decide_eq_true_eq, List.length_cons, List.length_nil]
      refine lcR2 (K := K) (n := n) (by omega) (by omega) (by omega) (by omega) (by omega) (fun i => ptD (spreadI l gap n i)) (fun i _ => rfl) (fun i H1 hi k1 Q' q => ?_) fun D H1 vs hD k1 hd1 ha => k D H1 vs hD k1 hd1 ha
      simp only [tSeq, tIfS, tNext, tRet, tRetN, tAsg, tDrop, tPar, tCons, tNil, tCB, tVar, tC, tOp, rI, rI0, rU, tTest, tB, tTup, tLst, gName, tIf, tAnd, tOr, tNot, tAndV, tOrV, tNotV, tUn, tCall, tChain, tSl, tNoPart, tPart, tBM, tBM0, tDGet, sDPut, tAugS, ipI, rIxT, rIxL, rMulK, rLenK, rLstK, tTruK, gTup, gCons, gNil, rEq, rNe, scal, tNever, rMulK, rGcd, L2.start, List.map, List.length, List.replicate, List.cons_append, List.nil_append, List.append_nil, List.set, List.set_cons_zero, List.set_cons_succ, List.getElem?_cons_succ, List.getElem?_cons_zero, Option.some.injEq, List.cons.injEq, V.int.injEq, V.str.injEq, V.bl.injEq, V.ref.injEq, and_true, true_and, exists_eq_left, exists_eq_left', exists_eq_right, exists_eq_right', exists_eq, exists_and_left, exists_and_right, and_assoc, exists_false, false_and, and_false, or_false, false_or, reduceCtorEq, Nat.reduceAdd, Nat.reduceSub, List.append_assoc, eq_self, if_true, if_false, Bool.false_eq_true, decide_eq_true_eq, List.length_cons, List.length_nil]
      have ev : atI ws ((gap : Int) - 1) = some v := by rw [show (gap : Int) - 1 = ((gap - 1 : Nat) : Int) by omega]; exact atI_nat hv
      have tk := Tk.of0 k1
      refine ⟨ws, sqT_tk tk hT, v, ev, ws, sqT_tk tk hT, u, atI_nat hu', v, u, _, _, _, _, rfl, dp_tk tk _ _ rfl dv, dp_tk tk _ _ rfl du, hl.ok _ mv, hl.ok _ mu, hl.sz _ mv, hl.sz _ mu, by omega, by omega, by omega, by omega, fun v' H' k' d' => q _ _ k' ?_⟩
      have : spreadI l gap n i = betP (atP l (gap - 1)) (atP l gap) ((i : Int) + 1) ((n : Int) + 1) := by unfold spreadI; rw [if_neg l0, if_neg (by omega), if_neg (by omega)]
      rw [this, show (i : Int) + 1 = 1 + (i : Int) by omega]
      exact d'

/-! ### _law_spread -/
theorem shift_ok {x : Pt} (h : PtOk x) (k : Int) : PtOk (x.1 + k * x.2, x.2) := by
  refine ⟨h.pos, ?_⟩
  show Int.gcd (x.1 + k * x.2) x.2 = 1
  rw [Int.gcd_add_mul_right_left]; exact h.low
abbrev sp__law_spread := sp_spread
theorem ok__law_spread (W : Ds K mg) : FnOk P w K mg base CX0 2 W.f__law_spread W.fd__law_spread P__law_spread (sp__law_spread K) := by
  refine W.D__law_spread.F.ok sc__law_spread (fun vs H Q E h => ?len) (fun cdv A outer s H vs Q E hr h => ?body)
  case len =>
    obtain ⟨a, ws, l, gap, n, rfl, _⟩ := h
    rfl
  case body =>
    obtain ⟨a, ws, l, gap, n, rfl, hT, hws, hl, hlen, hgap, hn, k⟩ := h
    have wlen : ws.length = l.length := by rw [dps_len hws, List.length_map]
    have nd := sc__law_spread.nd
    have hu := hu_of hr
    have hu64 := hr.units
    have hu65 := hu65_of hr
    refine ⟨_, (pss_cons (ps_if (pt_cmpR op_eq (pe_callB (c_len K) (by rfl) W.T.b_len (by decide +kernel) (pa_cons (pv 0) pa_nil)) pe_int (nomark _))
     (pss_one (ps_ret (pe_lc (own := [("i", 3)]) rfl nd (pi_range1 rfl W.T.b_range (pa_cons (pv 2) pa_nil)) (blkOk_by (N := N__law_spread) (sc := defScope s__law_spread) (by decide +kernel)) (fun _ _ _ _ _ => (pg_name (i := 3) nd rfl (by first | exact Or.inl rfl | exact Or.inr rfl))) (fun _ _ _ _ _ => pts_nil) (fun _ _ _ _ _ => (pe_tup (pa_cons (pv 3) (pa_cons pe_int pa_nil)))))))
     pss_nil)
  (pss_cons (ps_if (pt_cmpR op_eq (pv 1) pe_int (nomark _))
     (pss_cons (ps_asg (pe_ix (k_ixT K) (pv 0) pe_int (fun _ _ => rfl)) (g_tup K (pg_tup (n := 2) rfl (pgs_cons (pg_name (i := 4) nd rfl (by first | exact Or.inl rfl | exact Or.inr rfl)) (pgs_cons (pg_name (i := 5) nd rfl (by first | exact Or.inl rfl | exact Or.inr rfl)) pgs_nil)))))
      (pss_one (ps_ret (pe_lc (own := [("i", 3)]) rfl nd (pi_range1 rfl W.T.b_range (pa_cons (pv 2) pa_nil)) (blkOk_by (N := N__law_spread) (sc := defScope s__law_spread) (by decide +kernel)) (fun _ _ _ _ _ => (pg_name (i := 3) nd rfl (by first | exact Or.inl rfl | exact Or.inr rfl))) (fun _ _ _ _ _ => pts_nil) (fun _ _ _ _ _ => (pe_call (ok__law_point W) (hr.mono (by first | decide | omega)) rfl W.D__law_point.g W.D__law_point.F.kp W.D__law_point.b .nil pass0 (pa_cons (pe_op op_sub (pv 4) (pe_op op_mulK (pe_op op_sub (pv 2) (pv 3)) (pv 5))) (pa_cons (pv 5) pa_nil))))))))
     pss_nil)
  (pss_cons (ps_if (pt_cmpR op_eq (pv 1) (pe_callB (c_len K) (by rfl) W.T.b_len (by decide +kernel) (pa_cons (pv 0) pa_nil)) (nomark _))
     (pss_cons (ps_asg (pe_ix (k_ixT K) (pv 0) (pe_op op_sub (pv 1) pe_int) (fun _ _ => rfl)) (g_tup K (pg_tup (n := 2) rfl (pgs_cons (pg_name (i := 4) nd rfl (by first | exact Or.inl rfl | exact Or.inr rfl)) (pgs_cons (pg_name (i := 5) nd rfl (by first | exact Or.inl rfl | exact Or.inr rfl)) pgs_nil)))))
      (pss_one (ps_ret (pe_lc (own := [("i", 3)]) rfl nd (pi_range1 rfl W.T.b_range (pa_cons (pv 2) pa_nil)) (blkOk_by (N := N__law_spread) (sc := defScope s__law_spread) (by decide +kernel)) (fun _ _ _ _ _ => (pg_name (i := 3) nd rfl (by first | exact Or.inl rfl | exact Or.inr rfl))) (fun _ _ _ _ _ => pts_nil) (fun _ _ _ _ _ => (pe_call (ok__law_point W) (hr.mono (by first | decide | omega)) rfl W.D__law_point.g W.D__law_point.F.kp W.D__law_point.b .nil pass0 (pa_cons (pe_op op_add (pv 4) (pe_op op_mulK (pe_op op_add (pv 3) pe_int) (pv 5))) (pa_cons (pv 5) pa_nil))))))))
     pss_nil)
  (pss_cons (ps_asg (pe_ix (k_ixT K) (pv 0) (pe_op op_sub (pv 1) pe_int) (fun _ _ => rfl)) (g_tup K (pg_tup (n := 2) rfl (pgs_cons (pg_name (i := 6) nd rfl (by first | exact Or.inl rfl | exact Or.inr rfl)) (pgs_cons (pg_name (i := 7) nd rfl (by first | exact Or.inl rfl | exact Or.inr rfl)) pgs_nil)))))
  (pss_cons (ps_asg (pe_ix (k_ixT K) (pv 0) (pv 1) (fun _ _ => rfl)) (g_tup K (pg_tup (n := 2) rfl (pgs_cons (pg_name (i := 8) nd rfl (by first | exact Or.inl rfl | exact Or.inr rfl)) (pgs_cons (pg_name (i := 9) nd rfl (by first | exact Or.inl rfl | exact Or.inr rfl)) pgs_nil)))))
  (pss_one (ps_ret (pe_lc (own := [("i", 3)]) rfl nd (pi_range1 rfl W.T.b_range (pa_cons (pv 2) pa_nil)) (blkOk_by (N := N__law_spread) (sc := defScope s__law_spread) (by decide +kernel)) (fun _ _ _ _ _ => (pg_name (i := 3) nd rfl (by first | exact Or.inl rfl | exact Or.inr rfl))) (fun _ _ _ _ _ => pts_nil) (fun _ _ _ _ _ => (pe_call (ok__law_point W) (hr.mono (by first | decide | omega)) rfl W.D__law_point.g W.D__law_point.F.kp W.D__law_point.b .nil pass0 (pa_cons (pe_op op_add (pe_op op_mulK (pe_op op_mulK (pv 6) (pv 9)) (pe_op op_add (pv 2) pe_int)) (pe_op op_mulK (pe_op op_sub (pe_op op_mulK (pv 8) (pv 7)) (pe_op op_mulK (pv 6) (pv 9))) (pe_op op_add (pv 3) pe_int))) (pa_cons (pe_op op_mulK (pe_op op_mulK (pv 7) (pv 9)) (pe_op op_add (pv 2) pe_int)) pa_nil)))))))))))), ?_⟩
    simp only [tSeq, tIfS, tNext, tRet, tRetN, tAsg, tDrop, tPar, tCons, tNil, tCB, tVar, tC, tOp, rI, rI0, rU, tTest, tB, tTup, tLst, gName, tIf, tAnd, tOr, tNot, tAndV, tOrV, tNotV, tUn, tCall, tChain, tSl, tNoPart, tPart, tBM, tBM0, tDGet, sDPut, tAugS, ipI, rIxT, rIxL, rMulK, rLenK, rLstK, tTruK, gTup, gCons, gNil, rEq, rNe, scal, tNever, rMulK, rGcd, L2.start, List.map, List.length, List.replicate, List.cons_append, List.nil_append, List.append_nil, List.set, List.set_cons_zero, List.set_cons_succ, List.getElem?_cons_succ, List.getElem?_cons_zero, Option.some.injEq, List.cons.injEq, V.int.injEq, V.str.injEq, V.bl.injEq, V.ref.injEq, and_true, true_and, exists_eq_left, exists_eq_left', exists_eq_right, exists_eq_right', exists_eq, exists_and_left, exists_and_right, and_assoc, exists_false, false_and, and_false, or_false, false_or, reduceCtorEq, Nat.reduceAdd, Nat.reduceSub, List.append_assoc, eq_self, if_true, if_false, Bool.false_eq_true, decide_eq_true_eq, List.length_cons, List.length_nil]
    have e0 : (spreadP l gap n).map ptD = (List.range n).map fun i => ptD (spreadI l gap n i) := by
      unfold spreadP; rw [List.map_map]; rfl
    rw [e0] at k
    refine ⟨ws, Or.inr hT, ?_⟩
    refine ite2 (fun c => ?_) (fun c => ?_)
    · have l0 : l.length = 0 := by omega
      refine tlcR ?_
      refine ⟨_, rfl, lcR (K := K) (fun i => ptD (spreadI l gap n i)) (by rw [sizeLine_eq]; omega) (fun i _ => rfl) (fun i H1 hi k1 Q' q => ?_) fun D H1 vs hD k1 hd1 ha => k D H1 vs hD k1 hd1 ha⟩
      simp only [tSeq, tIfS, tNext, tRet, tRetN, tAsg, tDrop, tPar, tCons, tNil, tCB, tVar, tC, tOp, rI, rI0, rU, tTest, tB, tTup, tLst, gName, tIf, tAnd, tOr, tNot, tAndV, tOrV, tNotV, tUn, tCall, tChain, tSl, tNoPart, tPart, tBM, tBM0, tDGet, sDPut, tAugS, ipI, rIxT, rIxL, rMulK, rLenK, rLstK, tTruK, gTup, gCons, gNil, rEq, rNe, scal, tNever, rMulK, rGcd, L2.start, List.map, List.length, List.replicate, List.cons_append, List.nil_append, List.append_nil, List.set, List.set_cons_zero, List.set_cons_succ, List.getElem?_cons_succ, List.getElem?_cons_zero, Option.some.injEq, List.cons.injEq, V.int.injEq, V.str.injEq, V.bl.injEq, V.ref.injEq, and_true, true_and, exists_eq_left, exists_eq_left', exists_eq_right, exists_eq_right', exists_eq, exists_and_left, exists_and_right, and_assoc, exists_false, false_and, and_false, or_false, false_or, reduceCtorEq, Nat.reduceAdd, Nat.reduceSub, List.append_assoc, eq_self, if_true, if_false, Bool.false_eq_true, decide_eq_true_eq, List.length_cons, List.length_nil]
      refine ⟨by decide, fun p hp => q _ _ (Kp.new hp) ?_⟩
      have : spreadI l gap n i = ((i : Int), 1) := by unfold spreadI; rw [if_pos l0]
      rw [this]
      exact pt_mk (Or.inl (Or.inl upd_same))
    have l0 : l.length ≠ 0 := by omega
    refine ite2 (fun c1 => ?_) (fun c1 => ?_)
    · have g0 : gap = 0 := by omega
      subst g0
      obtain ⟨v, hv, dv⟩ := pts_item hws (i := 0) (by omega)
      obtain ⟨b, rfl, hb⟩ := pt_of dv
      have mx := List.mem_of_getElem? (atP_some (l := l) (i := 0) (by omega))
      have sx := hl.sz _ mx
      have ox := hl.ok _ mx
      refine ⟨ws, hT, _, atI_nat (j := 0) hv, _, rfl, _, hb, rfl, _, _, rfl, _, _, rfl, rfl, ?_⟩
      refine tlcR ?_
      refine ⟨_, rfl, lcR (K := K) (fun i => ptD (spreadI l 0 n i)) (by rw [sizeLine_eq]; omega) (fun i _ => rfl) (fun i H1 hi k1 Q' q => ?_) fun D H1 vs hD k1 hd1 ha => k D H1 vs hD k1 hd1 ha⟩
      simp only [tSeq, tIfS, tNext, tRet, tRetN, tAsg, tDrop, tPar, tCons, tNil, tCB, tVar, tC, tOp, rI, rI0, rU, tTest, tB, tTup, tLst, gName, tIf, tAnd, tOr, tNot, tAndV, tOrV, tNotV, tUn, tCall, tChain, tSl, tNoPart, tPart, tBM, tBM0, tDGet, sDPut, tAugS, ipI, rIxT, rIxL, rMulK, rLenK, rLstK, tTruK, gTup, gCons, gNil, rEq, rNe, scal, tNever, rMulK, rGcd, L2.start, List.map, List.length, List.replicate, List.cons_append, List.nil_append, List.append_nil, List.set, List.set_cons_zero, List.set_cons_succ, List.getElem?_cons_succ, List.getElem?_cons_zero, Option.some.injEq, List.cons.injEq, V.int.injEq, V.str.injEq, V.bl.injEq, V.ref.injEq, and_true, true_and, exists_eq_left, exists_eq_left', exists_eq_right, exists_eq_right', exists_eq, exists_and_left, exists_and_right, and_assoc, exists_false, false_and, and_false, or_false, false_or, reduceCtorEq, Nat.reduceAdd, Nat.reduceSub, List.append_assoc, eq_self, if_true, if_false, Bool.false_eq_true, decide_eq_true_eq, List.length_cons, List.length_nil]
      have : spreadI l 0 n i = normP ((atP l 0).1 - ((n : Int) - i) * (atP l 0).2) (atP l 0).2 := by
        unfold spreadI
        rw [if_neg l0, if_pos rfl]
        have e : (atP l 0).1 - ((n : Int) - i) * (atP l 0).2 = (atP l 0).1 + ((i : Int) - n) * (atP l 0).2 := by
          rw [show ((i : Int) - n) = -((n : Int) - i) by omega, Int.neg_mul]; omega
        rw [e]
        exact (norm_id (shift_ok ox ((i : Int) - n))).symm
      refine ⟨mulOk_l (by omega) (by omega), _, _, rfl, ox.pos, abs_mono sx.2 (by omega), fun v' H' k' d' => q _ _ k' ?_⟩
      rw [this]
      exact d'
    refine ⟨ws, Or.inr hT, ?_⟩
    refine ite2 (fun c2 => ?_) (fun c2 => ?_)
    · have g0 : gap = l.length := by omega
      subst g0
      obtain ⟨v, hv, dv⟩ := pts_item hws (i := l.length - 1) (by omega)
      obtain ⟨b, rfl, hb⟩ := pt_of dv
      have mx := List.mem_of_getElem? (atP_some (l := l) (i := l.length - 1) (by omega))
      have sx := hl.sz _ mx
      have ox := hl.ok _ mx
      refine ⟨ws, hT, _, (by rw [show ((l.length : Int) - 1) = ((l.length - 1 : Nat) : Int) by omega]; exact atI_nat hv), _, rfl, _, hb, rfl, _, _, rfl, _, _, rfl, rfl, ?_⟩
      refine tlcR ?_
      refine ⟨_, rfl, lcR (K := K) (fun i => ptD (spreadI l l.length n i)) (by rw [sizeLine_eq]; omega) (fun i _ => rfl) (fun i H1 hi k1 Q' q => ?_) fun D H1 vs hD k1 hd1 ha => k D H1 vs hD k1 hd1 ha⟩
      simp only [tSeq, tIfS, tNext, tRet, tRetN, tAsg, tDrop, tPar, tCons, tNil, tCB, tVar, tC, tOp, rI, rI0, rU, tTest, tB, tTup, tLst, gName, tIf, tAnd, tOr, tNot, tAndV, tOrV, tNotV, tUn, tCall, tChain, tSl, tNoPart, tPart, tBM, tBM0, tDGet, sDPut, tAugS, ipI, rIxT, rIxL, rMulK, rLenK, rLstK, tTruK, gTup, gCons, gNil, rEq, rNe, scal, tNever, rMulK, rGcd, L2.start, List.map, List.length, List.replicate, List.cons_append, List.nil_append, List.append_nil, List.set, List.set_cons_zero, List.set_cons_succ, List.getElem?_cons_succ, List.getElem?_cons_zero, Option.some.injEq, List.cons.injEq, V.int.injEq, V.str.injEq, V.bl.injEq, V.ref.injEq, and_true, true_and, exists_eq_left, exists_eq_left', exists_eq_right, exists_eq_right', exists_eq, exists_and_left, exists_and_right, and_assoc, exists_false, false_and, and_false, or_false, false_or, reduceCtorEq, Nat.reduceAdd, Nat.reduceSub, List.append_assoc, eq_self, if_true, if_false, Bool.false_eq_true, decide_eq_true_eq, List.length_cons, List.length_nil]
      have : spreadI l l.length n i = normP ((atP l (l.length - 1)).1 + ((i : Int) + 1) * (atP l (l.length - 1)).2) (atP l (l.length - 1)).2 := by
        unfold spreadI
        rw [if_neg l0, if_neg l0, if_pos rfl]
        exact (norm_id (shift_ok ox ((i : Int) + 1))).symm
      refine ⟨mulOk_l (by omega) (by omega), _, _, rfl, ox.pos, abs_mono sx.2 (by omega), fun v' H' k' d' => q _ _ k' ?_⟩
      rw [this]
      exact d'
    · have g1 : 0 < gap := by omega
      have g2 : gap < l.length := by omega
      obtain ⟨v, hv, dv⟩ := pts_item hws (i := gap - 1) (by omega)
      obtain ⟨u, hu', du⟩ := pts_item hws (i := gap) g2
      obtain ⟨a1, rfl, ha1⟩ := pt_of dv
      obtain ⟨b1, rfl, hb1⟩ := pt_of du
      have mv := List.mem_of_getElem? (atP_some (l := l) (i := gap - 1) (by omega))
      have mu := List.mem_of_getElem? (atP_some (l := l) (i := gap) g2)
      have ev : atI ws ((gap : Int) - 1) = some (V.ref a1) := by rw [show (gap : Int) - 1 = ((gap - 1 : Nat) : Int) by omega]; exact atI_nat hv
      refine ⟨ws, hT, _, ev, _, rfl, _, ha1, rfl, _, _, rfl, _, _, rfl, rfl, ws, hT, _, atI_nat hu', _, rfl, _, hb1, rfl, _, _, rfl, _, _, rfl, rfl, ?_⟩
      refine tlcR ?_
      refine ⟨_, rfl, lcR (K := K) (fun i => ptD (spreadI l gap n i)) (by rw [sizeLine_eq]; omega) (fun i _ => rfl) (fun i H1 hi k1 Q' q => ?_) fun D H1 vs hD k1 hd1 ha => k D H1 vs hD k1 hd1 ha⟩
      simp only [tSeq, tIfS, tNext, tRet, tRetN, tAsg, tDrop, tPar, tCons, tNil, tCB, tVar, tC, tOp, rI, rI0, rU, tTest, tB, tTup, tLst, gName, tIf, tAnd, tOr, tNot, tAndV, tOrV, tNotV, tUn, tCall, tChain, tSl, tNoPart, tPart, tBM, tBM0, tDGet, sDPut, tAugS, ipI, rIxT, rIxL, rMulK, rLenK, rLstK, tTruK, gTup, gCons, gNil, rEq, rNe, scal, tNever, rMulK, rGcd, L2.start, List.map, List.length, List.replicate, List.cons_append, List.nil_append, List.append_nil, List.set, List.set_cons_zero, List.set_cons_succ, List.getElem?_cons_succ, List.getElem?_cons_zero, Option.some.injEq, List.cons.injEq, V.int.injEq, V.str.injEq, V.bl.injEq, V.ref.injEq, and_true, true_and, exists_eq_left, exists_eq_left', exists_eq_right, exists_eq_right', exists_eq, exists_and_left, exists_and_right, and_assoc, exists_false, false_and, and_false, or_false, false_or, reduceCtorEq, Nat.reduceAdd, Nat.reduceSub, List.append_assoc, eq_self, if_true, if_false, Bool.false_eq_true, decide_eq_true_eq, List.length_cons, List.length_nil]
      have : spreadI l gap n i = betP (atP l (gap - 1)) (atP l gap) ((i : Int) + 1) ((n : Int) + 1) := by unfold spreadI; rw [if_neg l0, if_neg (by omega), if_neg (by omega)]
      rw [this] at q
      unfold betP at q
      have s1 := hl.sz _ mv
      have s2 := hl.sz _ mu
      have bn : ((n : Int) + 1).natAbs < 2 ^ 60 := by omega
      have b3 : ((atP l (gap - 1)).2 * (atP l gap).2).natAbs < 2 ^ 2000 := abs_mul_lt s1.2 s2.2
      have b4 : ((atP l (gap - 1)).2 * (atP l gap).2 * ((n : Int) + 1)).natAbs < 2 ^ 8000 := abs_mono (abs_mul_lt b3 bn) (by omega)
      refine ⟨mulOk_w s1.1 s2.2 (by omega) (by omega) (by omega), mulOk_r (by omega) (by omega), mulOk_w s2.1 s1.2 (by omega) (by omega) (by omega), mulOk_w s1.1 s2.2 (by omega) (by omega) (by omega), mulOk_r (by omega) (by omega), mulOk_w s1.2 s2.2 (by omega) (by omega) (by omega), mulOk_r (by omega) (by omega), _, _, rfl, ?_, b4, fun v' H' k' d' => q _ _ k' d'⟩
      exact Int.mul_pos (Int.mul_pos (hl.ok _ mv).pos (hl.ok _ mu).pos) (by omega)

/-! ### _law_draw_points -/
def sp__law_draw_points (K : PySem.W.Frag) : Sp := fun vs H Q _ => ∃ (d c : Addr) (many : Nat), vs = [.ref d, .int many] ∧ SrcAt H d c ∧ d ≠ c ∧ many ≤ 100 ∧
  ∀ (D : Addr) (H' : Hp) (us : List V) (l : List Pt), H D = none → Kp (Mdc d c) H H' → SrcAt H' d c → H' D = some (.lst us) → DpAll K H' us (l.map ptD) → PtsOk 100 l → l.length = many → Q (.ref D) H'
def DrawI (K : PySem.W.Frag) (d c p : Addr) (many : Nat) (H : Hp) (i : Nat) (σ : L2.St) (H' : Hp) : Prop :=
  ∃ (l : List Pt) (us : List V) (here : Int) (v4 v5 : Option V), σ = [some (.ref d), some (.int many), some (.ref p), some (.int here), v4, v5] ∧ Kp (Mdc d c) H H' ∧ SrcAt H' d c ∧
  H' p = some (.lst us) ∧ DpAll K H' us (l.map ptD) ∧ l.length = i ∧ PtsOk 100 l ∧ (∀ x ∈ l, x.1 < here * x.2) ∧ -2 ≤ here ∧ here ≤ 3 + 2 * i
theorem ok__law_draw_points (W : Ds K mg) : FnOk P w K mg base CX0 2 W.f__law_draw_points W.fd__law_draw_points P__law_draw_points (sp__law_draw_points K) := by
  refine W.D__law_draw_points.F.ok sc__law_draw_points (fun vs H Q E h => ?len) (fun cdv A outer s H vs Q E hr h => ?body)
  case len =>
    obtain ⟨d, c, many, rfl, _⟩ := h
    rfl
  case body =>
    obtain ⟨d, c, many, rfl, hS, ndc, hm, k⟩ := h
    have nd := sc__law_draw_points.nd
    have hu := hu_of hr
    have hu64 := hr.units
    have hu65 := hu65_of hr
    refine ⟨_, (pss_cons (ps_par (i := 2) (j := 3) rfl nd rfl rfl (by decide) rfl rfl (pa_cons (pe_lst pa_nil) (pa_cons (pe_op op_sub (pe_call (ok__law_pick W) (hr.mono (by first | decide | omega)) rfl W.D__law_pick.g W.D__law_pick.F.kp W.D__law_pick.b .nil pass0 (pa_cons (pv 0) (pa_cons pe_int pa_nil))) pe_int) pa_nil)) (by rfl))
  (pss_cons (ps_for PassesOwn.never rfl (pi_range1 rfl W.T.b_range (pa_cons (pv 1) pa_nil)) (pg_name (i := 4) nd rfl (by first | exact Or.inl rfl | exact Or.inr rfl))
     (pss_cons (ps_set (i := 5) nd rfl (by first | exact Or.inl rfl | exact Or.inr rfl) (pe_op op_add pe_int (pe_call (ok__law_pick W) (hr.mono (by first | decide | omega)) rfl W.D__law_pick.g W.D__law_pick.F.kp W.D__law_pick.b .nil pass0 (pa_cons (pv 0) (pa_cons pe_int pa_nil)))))
      (pss_cons (ps_expr (e_bm K (pe_bm PySem.F.plainAttrs_list PySem.F.slot_list_append PySem.F.type_list_append mt_append (pv 2) (pa_cons (pe_call (ok__law_point W) (hr.mono (by first | decide | omega)) rfl W.D__law_point.g W.D__law_point.F.kp W.D__law_point.b .nil pass0 (pa_cons (pe_op op_add (pe_op op_mulK (pv 3) (pv 5)) (pe_call (ok__law_pick W) (hr.mono (by first | decide | omega)) rfl W.D__law_pick.g W.D__law_pick.F.kp W.D__law_pick.b .nil pass0 (pa_cons (pv 0) (pa_cons (pv 5) pa_nil)))) (pa_cons (pv 5) pa_nil))) pa_nil))))
      (pss_one (ps_set (i := 3) nd rfl (by first | exact Or.inl rfl | exact Or.inr rfl) (pe_op op_add (pe_op op_add (pv 3) pe_int) (pe_call (ok__law_pick W) (hr.mono (by first | decide | omega)) rfl W.D__law_pick.g W.D__law_pick.F.kp W.D__law_pick.b .nil pass0 (pa_cons (pv 0) (pa_cons pe_int pa_nil)))))))))
  (pss_one (ps_ret (pv 2))))), ?_⟩
    simp only [tSeq, tIfS, tNext, tRet, tRetN, tAsg, tDrop, tPar, tCons, tNil, tCB, tVar, tC, tOp, rI, rI0, rU, tTest, tB, tTup, tLst, gName, tIf, tAnd, tOr, tNot, tAndV, tOrV, tNotV, tUn, tCall, tChain, tSl, tNoPart, tPart, tBM, tBM0, tDGet, sDPut, tAugS, ipI, rIxT, rIxL, rMulK, rLenK, rLstK, tTruK, gTup, gCons, gNil, rEq, rNe, scal, tNever, rMulK, rGcd, L2.start, List.map, List.length, List.replicate, List.cons_append, List.nil_append, List.append_nil, List.set, List.set_cons_zero, List.set_cons_succ, List.getElem?_cons_succ, List.getElem?_cons_zero, Option.some.injEq, List.cons.injEq, V.int.injEq, V.str.injEq, V.bl.injEq, V.ref.injEq, and_true, true_and, exists_eq_left, exists_eq_left', exists_eq_right, exists_eq_right', exists_eq, exists_and_left, exists_and_right, and_assoc, exists_false, false_and, and_false, or_false, false_or, reduceCtorEq, Nat.reduceAdd, Nat.reduceSub, List.append_assoc, eq_self, if_true, if_false, Bool.false_eq_true, decide_eq_true_eq, List.length_cons, List.length_nil]
    refine ⟨by decide, fun p hp => ?_⟩
    have ndp := hS.d_ne hp
    have ncp := hS.c_ne hp
    have nmp : ¬ Mdc d c p := fun z => z.elim (fun z => ndp z.symm) (fun z => ncp z.symm)
    refine ⟨d, c, 5, rfl, hS.new hp, ndc, by decide, fun r0 H1 h0 h1 k1 hS1 => ⟨r0, rfl, ?_⟩⟩
    have hp1 : H1 p = some (.lst []) := k1 p _ upd_same nmp
    refine ⟨_, rfl, _, rfl, by omega, by omega, ?_⟩
    rw [Int.toNat_natCast]
    refine for_range (n := many) (lo := 0) (DrawI K d c p many H) ?_ ?_ ?_
    · refine ⟨[], [], r0 - 2, none, none, rfl, ((Kp.new hp).trans k1), hS1, hp1, .nil, rfl, ⟨fun x h => by simp at h, fun x h => by simp at h, List.Pairwise.nil⟩, fun x h => by simp at h, by omega, by omega⟩
    · rintro i σ H2 hi ⟨l, us, here, v4, v5, rfl, k2, hS2, hp2, hus, hl, hok, hbelow, hh0, hh1⟩
      simp only [tSeq, tIfS, tNext, tRet, tRetN, tAsg, tDrop, tPar, tCons, tNil, tCB, tVar, tC, tOp, rI, rI0, rU, tTest, tB, tTup, tLst, gName, tIf, tAnd, tOr, tNot, tAndV, tOrV, tNotV, tUn, tCall, tChain, tSl, tNoPart, tPart, tBM, tBM0, tDGet, sDPut, tAugS, ipI, rIxT, rIxL, rMulK, rLenK, rLstK, tTruK, gTup, gCons, gNil, rEq, rNe, scal, tNever, rMulK, rGcd, L2.start, List.map, List.length, List.replicate, List.cons_append, List.nil_append, List.append_nil, List.set, List.set_cons_zero, List.set_cons_succ, List.getElem?_cons_succ, List.getElem?_cons_zero, Option.some.injEq, List.cons.injEq, V.int.injEq, V.str.injEq, V.bl.injEq, V.ref.injEq, and_true, true_and, exists_eq_left, exists_eq_left', exists_eq_right, exists_eq_right', exists_eq, exists_and_left, exists_and_right, and_assoc, exists_false, false_and, and_false, or_false, false_or, reduceCtorEq, Nat.reduceAdd, Nat.reduceSub, List.append_assoc, eq_self, if_true, if_false, Bool.false_eq_true, decide_eq_true_eq, List.length_cons, List.length_nil]
      refine ⟨d, c, 3, rfl, hS2, ndc, by decide, fun r1 H3 a0 a1 k3 hS3 => ⟨r1, rfl, ?_⟩⟩
      have hp3 := k3 p _ hp2 nmp
      have hus3 := dps_tk (hS2.tk k3) _ _ (ptDs_tup l) hus
      refine ⟨Or.inl ⟨rfl, _, Or.inl (Or.inl hp3)⟩, mulOk_r (by omega) (by omega), ?_⟩
      refine ⟨d, c, 1 + r1, rfl, hS3, ndc, abs_mono (n := 8000) (m := 10) (by omega) (by omega), fun r2 H4 b0 b1 k4 hS4 => ⟨r2, rfl, ?_⟩⟩
      have hp4 := k4 p _ hp3 nmp
      have hus4 := dps_tk (hS3.tk k4) _ _ (ptDs_tup l) hus3
      refine ⟨_, _, rfl, by omega, abs_mono (n := 8000) (m := 10) (by omega) (by omega), fun v H5 k5 dv => ?_⟩
      have hp5 := k5 p _ hp4 (fun z => z)
      have hus5 := dps_tk (Tk.of0 k5) _ _ (ptDs_tup l) hus4
      have hS5 := hS4.keep k5
      have q0 : 0 < 1 + r1 := by omega
      have r2l : r2 < 1 + r1 := by omega
      have nok := norm_ok (p := here * (1 + r1) + r2) q0
      have nb : (normP (here * (1 + r1) + r2) (1 + r1)).1 < (here + 1) * (normP (here * (1 + r1) + r2) (1 + r1)).2 := by
        have z := (lt_norm_l (p := here * (1 + r1) + r2) q0 (here + 1, 1)).mpr (by
          show (here * (1 + r1) + r2) * 1 < (here + 1) * (1 + r1)
          rw [Int.mul_one, Int.add_mul, Int.one_mul]; omega)
        unfold ltP at z
        simpa using z
      have nl : here * (normP (here * (1 + r1) + r2) (1 + r1)).2 ≤ (normP (here * (1 + r1) + r2) (1 + r1)).1 := by
        have z : ¬ ltP (normP (here * (1 + r1) + r2) (1 + r1)) (here, 1) := fun y => by
          have y' := (lt_norm_l (p := here * (1 + r1) + r2) q0 (here, 1)).mp y
          have y'' : (here * (1 + r1) + r2) * 1 < here * (1 + r1) := y'
          omega
        unfold ltP at z
        have z' : ¬ (normP (here * (1 + r1) + r2) (1 + r1)).1 * 1 < here * (normP (here * (1 + r1) + r2) (1 + r1)).2 := z
        omega
      have hq3 : 1 + r1 ≤ 3 := by omega
      have hprod : (here * (1 + r1) + r2).natAbs < 2 ^ 100 := by
        have b1 : here.natAbs < 2 ^ 20 := by omega
        have b2 : (1 + r1).natAbs < 2 ^ 20 := by omega
        have b3 := abs_mul_lt b1 b2
        have b4 : r2.natAbs < 2 ^ 40 := by omega
        exact abs_mono (abs_add_lt b3 b4) (by omega)
      have nsz := norm_sz (p := here * (1 + r1) + r2) (b := 100) q0 hprod (by omega)
      simp only [rAppend]
      refine ⟨p, us, v, rfl, rfl, hp5, by rw [dps_len hus5, List.length_map, sizeLine_eq]; omega, ?_⟩
      refine ⟨d, c, 2, rfl, hS5.other ndp ncp, ndc, by decide, fun r3 H6 c0 c1 k6 hS6 => ⟨r3, rfl, ?_⟩⟩
      have hp6 : H6 p = some (.lst (us ++ [v])) := k6 p _ upd_same nmp
      have tk6 : Tk H5 H6 := (Tk.lst hp5).trans ((hS5.other ndp ncp).tk k6)
      refine ⟨l ++ [normP (here * (1 + r1) + r2) (1 + r1)], us ++ [v], here + 1 + r3, _, _, rfl, ?_, hS6, hp6, ?_, by simp [hl], ?_, ?_, by omega, by omega⟩
      · exact (((((k2.trans k3).trans k4).trans k5.of0).at hp)).trans k6
      · rw [List.map_append]
        exact dps_app (dps_tk tk6 _ _ (ptDs_tup l) hus5) (dps_one (dp_tk tk6 _ _ rfl dv))
      · refine ⟨fun x hx => ?_, fun x hx => ?_, ?_⟩
        · rcases List.mem_append.mp hx with h | h
          · exact hok.ok x h
          · rw [List.mem_singleton.mp h]; exact nok
        · rcases List.mem_append.mp hx with h | h
          · exact hok.sz x h
          · rw [List.mem_singleton.mp h]; exact nsz
        · refine List.pairwise_append.mpr ⟨hok.asc, List.pairwise_singleton _ _, fun x hx y hy => ?_⟩
          rw [List.mem_singleton.mp hy]
          unfold ltP
          have e1 := hbelow x hx
          have px := (hok.ok x hx).pos
          have py := nok.pos
          generalize (normP (here * (1 + r1) + r2) (1 + r1)) = y at *
          have s1 : x.1 * y.2 < here * x.2 * y.2 := (mul_lt_iff py).mpr e1
          have s2 : here * y.2 * x.2 ≤ y.1 * x.2 := Int.mul_le_mul_of_nonneg_right nl (by omega)
          have s3 : here * x.2 * y.2 = here * y.2 * x.2 := Int.mul_right_comm ..
          omega
      · intro x hx
        rcases List.mem_append.mp hx with h | h
        · have e1 := hbelow x h
          have px := (hok.ok x h).pos
          have e2 : here * x.2 ≤ (here + 1 + r3) * x.2 := Int.mul_le_mul_of_nonneg_right (by omega) (by omega)
          omega
        · rw [List.mem_singleton.mp h]
          have py := nok.pos
          generalize (normP (here * (1 + r1) + r2) (1 + r1)) = y at *
          have e2 : (here + 1) * y.2 ≤ (here + 1 + r3) * y.2 := Int.mul_le_mul_of_nonneg_right (by omega) (by omega)
          omega
    · rintro σ H2 ⟨l, us, here, v4, v5, rfl, k2, hS2, hp2, hus, hl, hok, hbelow, hh0, hh1⟩
      exact ⟨_, rfl, k p H2 us l hp k2 hS2 hp2 hus hok hl⟩
end
end G
set_option Elab.async false
set_option linter.all false
set_option maxRecDepth 100000
set_option exponentiation.threshold 10000
namespace G
open PySem L2
def apartP (x y : Pt) : Pt := normP (x.1 * y.2 - y.1 * x.2) (x.2 * y.2)
def evenRow (l : List Pt) (gap n : Nat) : List Pt := ((if 0 < gap then (l.drop (gap - 1)).take 1 else []) ++ spreadP l gap n) ++ (l.drop gap).take 1

theorem norm_scale {p q g : Int} (hq : 0 < q) (hg : 0 < g) : normP (p * g) (q * g) = normP p q := by
  have hqg : 0 < q * g := Int.mul_pos hq hg
  refine eq_of_mul (norm_ok hqg) (norm_ok hq) ?_
  have g1 := gcd_pos' (p := p * g) hqg
  have g2 := gcd_pos' (p := p) hq
  have e1 := norm_mul1 (p * g) (q * g)
  have e2 := norm_mul2 (p * g) (q * g)
  have e3 := norm_mul1 p q
  have e4 := norm_mul2 p q
  generalize (Int.gcd (p * g) (q * g) : Int) = u at *
  generalize (Int.gcd p q : Int) = v at *
  generalize normP (p * g) (q * g) = x at *
  generalize normP p q = y at *
  have c : x.1 * y.2 * (u * v) = y.1 * x.2 * (u * v) := by
    have a1 : x.1 * y.2 * (u * v) = (x.1 * u) * (y.2 * v) := by ac_rfl
    have a2 : y.1 * x.2 * (u * v) = (y.1 * v) * (x.2 * u) := by ac_rfl
    rw [a1, a2, e1, e2, e3, e4]
    ac_rfl
  exact Int.eq_of_mul_eq_mul_right (by have := Int.mul_pos g1 g2; omega) c
theorem norm_one {g : Int} (hg : 0 < g) : normP g g = (1, 1) := by
  have := norm_scale (p := 1) (q := 1) (by omega) hg
  rw [Int.one_mul] at this
  rw [this]
  rfl
theorem apart_norm {X Y D : Int} (hD : 0 < D) : apartP (normP X D) (normP Y D) = normP (X - Y) D := by
  have g1 := gcd_pos' (p := X) hD
  have g2 := gcd_pos' (p := Y) hD
  have e1 := norm_mul1 X D
  have e2 := norm_mul2 X D
  have e3 := norm_mul1 Y D
  have e4 := norm_mul2 Y D
  have p1 := (norm_ok (p := X) hD).pos
  have p2 := (norm_ok (p := Y) hD).pos
  unfold apartP
  generalize (Int.gcd X D : Int) = u at *
  generalize (Int.gcd Y D : Int) = v at *
  generalize normP X D = x at *
  generalize normP Y D = y at *
  have h1 := norm_scale (p := x.1 * y.2 - y.1 * x.2) (q := x.2 * y.2) (Int.mul_pos p1 p2) (Int.mul_pos g1 g2)
  rw [← h1]
  have a1 : (x.1 * y.2 - y.1 * x.2) * (u * v) = (X - Y) * D := by
    rw [Int.sub_mul, Int.sub_mul]
    have b1 : x.1 * y.2 * (u * v) = (x.1 * u) * (y.2 * v) := by ac_rfl
    have b2 : y.1 * x.2 * (u * v) = (y.1 * v) * (x.2 * u) := by ac_rfl
    rw [b1, b2, e1, e2, e3, e4]
  have a2 : x.2 * y.2 * (u * v) = D * D := by
    have b1 : x.2 * y.2 * (u * v) = (x.2 * u) * (y.2 * v) := by ac_rfl
    rw [b1, e2, e4]
  rw [a1, a2]
  exact norm_scale hD hD
theorem apart_shift {p q : Int} (hq : 0 < q) (k : Int) : apartP (p + (k + 1) * q, q) (p + k * q, q) = (1, 1) := by
  unfold apartP
  show normP ((p + (k + 1) * q) * q - (p + k * q) * q) (q * q) = (1, 1)
  have e : (p + (k + 1) * q) * q - (p + k * q) * q = q * q := by
    rw [← Int.sub_mul]
    congr 1
    rw [Int.add_mul, Int.one_mul]; omega
  rw [e]
  exact norm_one (Int.mul_pos hq hq)
theorem bet0 {a b : Pt} {n : Int} (ha : PtOk a) (hb : PtOk b) (hn : 0 < n) : betP a b 0 n = a := by
  unfold betP
  rw [Int.mul_zero, Int.add_zero]
  have e1 : a.1 * b.2 * n = a.1 * (b.2 * n) := by ac_rfl
  have e2 : a.2 * b.2 * n = a.2 * (b.2 * n) := by ac_rfl
  rw [e1, e2, norm_scale ha.pos (Int.mul_pos hb.pos hn)]
  exact norm_id ha
theorem betn {a b : Pt} {n : Int} (ha : PtOk a) (hb : PtOk b) (hn : 0 < n) : betP a b n n = b := by
  unfold betP
  have e1 : a.1 * b.2 * n + (b.1 * a.2 - a.1 * b.2) * n = b.1 * (a.2 * n) := by
    rw [← Int.add_mul]
    have : a.1 * b.2 + (b.1 * a.2 - a.1 * b.2) = b.1 * a.2 := by omega
    rw [this]; ac_rfl
  have e2 : a.2 * b.2 * n = b.2 * (a.2 * n) := by ac_rfl
  rw [e1, e2, norm_scale hb.pos (Int.mul_pos ha.pos hn)]
  exact norm_id hb
theorem bet_sz {a b : Pt} {i n : Int} (ha : PtOk a) (hb : PtOk b) (sa : Sz 1000 a) (sb : Sz 1000 b) (hi : 0 ≤ i) (hi2 : i < 2 ^ 20) (hn : 0 < n) (hn2 : n < 2 ^ 20) : Sz 2500 (betP a b i n) := by
  unfold betP
  have b1 : (a.1 * b.2).natAbs < 2 ^ 2000 := abs_mul_lt sa.1 sb.2
  have b2 : (b.1 * a.2).natAbs < 2 ^ 2000 := abs_mul_lt sb.1 sa.2
  have b3 : (a.2 * b.2).natAbs < 2 ^ 2000 := abs_mul_lt sa.2 sb.2
  have bi : i.natAbs < 2 ^ 20 := by omega
  have bn : n.natAbs < 2 ^ 20 := by omega
  have c1 : (a.1 * b.2 * n).natAbs < 2 ^ 2020 := abs_mul_lt b1 bn
  have c2 : ((b.1 * a.2 - a.1 * b.2) * i).natAbs < 2 ^ 2021 := abs_mul_lt (abs_sub_lt b2 b1) bi
  have c3 : (a.2 * b.2 * n).natAbs < 2 ^ 2020 := abs_mul_lt b3 bn
  exact norm_sz (Int.mul_pos (Int.mul_pos ha.pos hb.pos) hn) (abs_mono (abs_add_lt (abs_mono c1 (by omega)) c2) (by omega)) (abs_mono c3 (by omega))
theorem shift_sz {x : Pt} {k : Int} (h : Sz 1000 x) (h1 : -1000000 ≤ k) (h2 : k ≤ 1000000) : Sz 2500 (x.1 + k * x.2, x.2) := by
  have bk : k.natAbs < 2 ^ 20 := by omega
  have c1 : (k * x.2).natAbs < 2 ^ 1020 := abs_mul_lt bk h.2
  exact ⟨abs_mono (abs_add_lt (abs_mono h.1 (by omega)) c1) (by omega), abs_mono h.2 (by omega)⟩
theorem take1 {l : List Pt} {i : Nat} (h : i < l.length) : (l.drop i).take 1 = [atP l i] := by
  have e := atP_some h
  rw [List.take_one, List.head?_drop, e]; rfl

/-- a row is even: by what its points are -/
structure Even (l : List Pt) (gap n : Nat) (r : List Pt) : Prop where
  ex : ∃ (m : Nat) (f : Nat → Pt), r = (List.range m).map f ∧ m ≤ 2000 ∧ (∀ k, k < m → 0 < (f k).2 ∧ Sz 2500 (f k)) ∧
    (0 < gap ∧ gap < l.length → ∃ C, ∀ k, k + 1 < m → apartP (f (k + 1)) (f k) = C) ∧ (¬ (0 < gap ∧ gap < l.length) → ∀ k, k + 1 < m → apartP (f (k + 1)) (f k) = (1, 1))
theorem even_ok {l : List Pt} {gap n : Nat} (hl : PtsOk 1000 l) (hg : gap ≤ l.length) (hn : n < 1000) : Even l gap n (evenRow l gap n) := by
  constructor
  by_cases l0 : l.length = 0
  · have g0 : gap = 0 := by omega
    subst g0
    refine ⟨n, fun k => ((k : Int), 1), ?_, by omega, fun k hk => ⟨by show (0:Int) < 1; decide, ?_⟩, fun z => by omega, fun _ k hk => ?_⟩
    · have e : l = [] := List.length_eq_zero_iff.mp l0
      subst e
      simp [evenRow, spreadP, spreadI]
    · constructor
      · show (k : Int).natAbs < 2 ^ 2500
        exact abs_mono (m := 20) (by omega) (by omega)
      · show (1 : Int).natAbs < 2 ^ 2500
        exact abs_mono (m := 20) (by decide) (by omega)
    · have := apart_shift (p := 0) (q := 1) (by omega) (k : Int)
      simpa using this
  by_cases g0 : gap = 0
  · subst g0
    have m0 := List.mem_of_getElem? (atP_some (l := l) (i := 0) (by omega))
    refine ⟨n + 1, fun k => ((atP l 0).1 + ((k : Int) - n) * (atP l 0).2, (atP l 0).2), ?_, by omega, fun k hk => ⟨(hl.ok _ m0).pos, shift_sz (hl.sz _ m0) (by omega) (by omega)⟩, fun z => by omega, fun _ k hk => ?_⟩
    · unfold evenRow
      rw [if_neg (by omega), List.nil_append, take1 (by omega), List.range_succ, List.map_append]
      congr 1
      · unfold spreadP
        refine List.map_congr_left fun i _ => ?_
        unfold spreadI
        rw [if_neg l0, if_pos rfl]
      · simp
    · have := apart_shift (p := (atP l 0).1) (q := (atP l 0).2) (hl.ok _ m0).pos ((k : Int) - n)
      show apartP ((atP l 0).1 + (((k + 1 : Nat) : Int) - n) * (atP l 0).2, (atP l 0).2) _ = _
      rw [show (((k + 1 : Nat) : Int) - n) = ((k : Int) - n) + 1 by omega]
      exact this
  by_cases g1 : gap = l.length
  · subst g1
    have m0 := List.mem_of_getElem? (atP_some (l := l) (i := l.length - 1) (by omega))
    refine ⟨n + 1, fun k => ((atP l (l.length - 1)).1 + (k : Int) * (atP l (l.length - 1)).2, (atP l (l.length - 1)).2), ?_, by omega, fun k hk => ⟨(hl.ok _ m0).pos, shift_sz (hl.sz _ m0) (by omega) (by omega)⟩, fun z => by omega, fun _ k hk => ?_⟩
    · unfold evenRow
      rw [if_pos (by omega), take1 (by omega), List.drop_of_length_le (Nat.le_refl _), List.take_nil, List.append_nil, List.range_succ_eq_map, List.map_cons]
      refine List.cons_eq_cons.mpr ⟨by simp, ?_⟩
      unfold spreadP
      rw [List.map_map]
      refine List.map_congr_left fun i _ => ?_
      unfold spreadI
      rw [if_neg l0, if_neg g0, if_pos rfl]
      simp
    · have := apart_shift (p := (atP l (l.length - 1)).1) (q := (atP l (l.length - 1)).2) (hl.ok _ m0).pos (k : Int)
      simpa using this
  · have ma := List.mem_of_getElem? (atP_some (l := l) (i := gap - 1) (by omega))
    have mb := List.mem_of_getElem? (atP_some (l := l) (i := gap) (by omega))
    have oa := hl.ok _ ma
    have ob := hl.ok _ mb
    refine ⟨n + 2, fun k => betP (atP l (gap - 1)) (atP l gap) (k : Int) ((n : Int) + 1), ?_, by omega, fun k hk => ⟨?_, bet_sz oa ob (hl.sz _ ma) (hl.sz _ mb) (by omega) (by omega) (by omega) (by omega)⟩, fun _ => ⟨normP ((atP l gap).1 * (atP l (gap - 1)).2 - (atP l (gap - 1)).1 * (atP l gap).2) ((atP l (gap - 1)).2 * (atP l gap).2 * ((n : Int) + 1)), fun k hk => ?_⟩, fun z => by omega⟩
    · unfold evenRow
      rw [if_pos (by omega), take1 (by omega), take1 (by omega), List.range_succ, List.map_append, List.range_succ_eq_map, List.map_cons]
      congr 1
      · show atP l (gap - 1) :: _ = _
        congr 1
        · exact (bet0 oa ob (by omega)).symm
        · unfold spreadP
          rw [List.map_map]
          refine List.map_congr_left fun i _ => ?_
          unfold spreadI
          rw [if_neg l0, if_neg g0, if_neg g1]
          simp
      · simp only [List.map_cons, List.map_nil]
        rw [show (((n + 1 : Nat)) : Int) = (n : Int) + 1 by omega, betn oa ob (by omega)]
    · exact (norm_ok (Int.mul_pos (Int.mul_pos oa.pos ob.pos) (by omega))).pos
    · show apartP (betP _ _ _ _) (betP _ _ _ _) = _
      unfold betP
      rw [apart_norm (Int.mul_pos (Int.mul_pos oa.pos ob.pos) (by omega))]
      congr 1
      rw [show (((k + 1 : Nat)) : Int) = (k : Int) + 1 by omega]
      generalize ((atP l gap).1 * (atP l (gap - 1)).2 - (atP l (gap - 1)).1 * (atP l gap).2) = W
      generalize (atP l (gap - 1)).1 * (atP l gap).2 * ((n : Int) + 1) = N
      rw [Int.mul_add W (k : Int) 1, Int.mul_one]
      generalize W * (k : Int) = Z
      omega
end G
set_option Elab.async false
set_option linter.all false
set_option maxRecDepth 100000
set_option exponentiation.threshold 10000
namespace G
open PySem L2
section
variable {P : Program} {w : World} {K : PySem.W.Frag} {mg : Str → Option Value} {base : Heap}
/-! ### _law_apart -/
def sp__law_apart (K : PySem.W.Frag) : Sp := fun vs H Q _ => ∃ (v u : V) (x y : Pt), vs = [v, u] ∧ Dp K H v (ptD x) ∧ Dp K H u (ptD y) ∧ 0 < x.2 ∧ 0 < y.2 ∧ Sz 3000 x ∧ Sz 3000 y ∧
  ∀ (v : V) (H' : Hp), Kp M0 H H' → Dp K H' v (ptD (apartP x y)) → Q v H'
theorem ok__law_apart (W : Ds K mg) : FnOk P w K mg base CX0 2 W.f__law_apart W.fd__law_apart P__law_apart (sp__law_apart K) := by
  refine W.D__law_apart.F.ok sc__law_apart (fun vs H Q E h => ?len) (fun cdv A outer s H vs Q E hr h => ?body)
  case len =>
    obtain ⟨v, u, x, y, rfl, _⟩ := h
    rfl
  case body =>
    obtain ⟨v, u, x, y, rfl, hx, hy, ox, oy, sx, sy, k⟩ := h
    obtain ⟨a, rfl, ha⟩ := pt_of hx
    obtain ⟨b, rfl, hb⟩ := pt_of hy
    have nd := sc__law_apart.nd
    have hu := hu_of hr
    have hu64 := hr.units
    have hu65 := hu65_of hr
    refine ⟨_, (pss_one (ps_ret (pe_call (ok__law_point W) (hr.mono (by first | decide | omega)) rfl W.D__law_point.g W.D__law_point.F.kp W.D__law_point.b .nil pass0 (pa_cons (pe_op op_sub (pe_op op_mulK (pe_ix (k_ixT K) (pv 0) pe_int (fun _ _ => rfl)) (pe_ix (k_ixT K) (pv 1) pe_int (fun _ _ => rfl))) (pe_op op_mulK (pe_ix (k_ixT K) (pv 1) pe_int (fun _ _ => rfl)) (pe_ix (k_ixT K) (pv 0) pe_int (fun _ _ => rfl)))) (pa_cons (pe_op op_mulK (pe_ix (k_ixT K) (pv 0) pe_int (fun _ _ => rfl)) (pe_ix (k_ixT K) (pv 1) pe_int (fun _ _ => rfl))) pa_nil))))), ?_⟩
    simp only [tSeq, tIfS, tNext, tRet, tRetN, tAsg, tDrop, tPar, tCons, tNil, tCB, tVar, tC, tOp, rI, rI0, rU, tTest, tB, tTup, tLst, gName, tIf, tAnd, tOr, tNot, tAndV, tOrV, tNotV, tUn, tCall, tChain, tSl, tNoPart, tPart, tBM, tBM0, tDGet, sDPut, tAugS, ipI, rIxT, rIxL, rMulK, rLenK, rLstK, tTruK, gTup, gCons, gNil, rEq, rNe, scal, tNever, rMulK, rGcd, L2.start, List.map, List.length, List.replicate, List.cons_append, List.nil_append, List.append_nil, List.set, List.set_cons_zero, List.set_cons_succ, List.getElem?_cons_succ, List.getElem?_cons_zero, Option.some.injEq, List.cons.injEq, V.int.injEq, V.str.injEq, V.bl.injEq, V.ref.injEq, and_true, true_and, exists_eq_left, exists_eq_left', exists_eq_right, exists_eq_right', exists_eq, exists_and_left, exists_and_right, and_assoc, exists_false, false_and, and_false, or_false, false_or, reduceCtorEq, Nat.reduceAdd, Nat.reduceSub, List.append_assoc, eq_self, if_true, if_false, Bool.false_eq_true, decide_eq_true_eq, List.length_cons, List.length_nil]
    (repeat (first | refine ⟨_, ha, ?_⟩ | refine ⟨_, hb, ?_⟩ | refine ⟨_, rfl, ?_⟩))
    refine ⟨mulOk_w sx.1 sy.2 (by omega) (by omega) (by omega), ?_⟩
    (repeat (first | refine ⟨_, ha, ?_⟩ | refine ⟨_, hb, ?_⟩ | refine ⟨_, rfl, ?_⟩))
    refine ⟨mulOk_w sy.1 sx.2 (by omega) (by omega) (by omega), ?_⟩
    (repeat (first | refine ⟨_, ha, ?_⟩ | refine ⟨_, hb, ?_⟩ | refine ⟨_, rfl, ?_⟩))
    refine ⟨mulOk_w sx.2 sy.2 (by omega) (by omega) (by omega), _, _, rfl, Int.mul_pos ox oy, abs_mono (abs_mul_lt sx.2 sy.2) (by omega), k⟩

/-! ### _law_is_even -/
def sp__law_is_even (K : PySem.W.Frag) : Sp := fun vs H Q _ => ∃ (a D : Addr) (ws us : List V) (l : List Pt) (gap n : Nat), vs = [.ref a, .int gap, .ref D] ∧ SqT K H a ws ∧ DpAll K H ws (l.map ptD) ∧ PtsOk 1000 l ∧ l.length < 1000 ∧ gap ≤ l.length ∧ n < 1000 ∧
  H D = some (.lst us) ∧ DpAll K H us ((spreadP l gap n).map ptD) ∧ ∀ (H' : Hp), Kp M0 H H' → Q (.bl true) H'
def lowL (l : List Pt) (gap : Nat) : List Pt := if 0 < gap then (l.drop (gap - 1)).take 1 else []
def EvI1 (K : PySem.W.Frag) (a D : Addr) (gap : Nat) (ls : List Pt) (H : Hp) (σ : L2.St) (H' : Hp) : Prop :=
  ∃ p zs, σ = [some (.ref a), some (.int gap), some (.ref D), some (.ref p), none, none, none, none] ∧ Kp M0 H H' ∧ H' p = some (.lst zs) ∧ DpAll K H' zs (ls.map ptD)
def EvI2 (K : PySem.W.Frag) (a D : Addr) (gap : Nat) (ls : List Pt) (H : Hp) (σ : L2.St) (H' : Hp) : Prop :=
  ∃ p zs v3, σ = [some (.ref a), some (.int gap), some (.ref D), v3, some (.ref p), none, none, none] ∧ Kp M0 H H' ∧ H' p = some (.lst zs) ∧ DpAll K H' zs (ls.map ptD)
def EvI3 (K : PySem.W.Frag) (a D : Addr) (gap : Nat) (ls : List Pt) (H : Hp) (σ : L2.St) (H' : Hp) : Prop :=
  ∃ p zs v3 v4, σ = [some (.ref a), some (.int gap), some (.ref D), v3, v4, none, some (.ref p), none] ∧ Kp M0 H H' ∧ H' p = some (.lst zs) ∧ DpAll K H' zs (ls.map ptD)
theorem even_split (l : List Pt) (gap n : Nat) : evenRow l gap n = (lowL l gap ++ spreadP l gap n) ++ (l.drop gap).take 1 := rfl
theorem spread_len (l : List Pt) (gap n : Nat) : (spreadP l gap n).length = n := by unfold spreadP; simp
theorem ok__law_is_even (W : Ds K mg) : FnOk P w K mg base CX0 3 W.f__law_is_even W.fd__law_is_even P__law_is_even (sp__law_is_even K) := by
  refine W.D__law_is_even.F.ok sc__law_is_even (fun vs H Q E h => ?len) (fun cdv A outer s H vs Q E hr h => ?body)
  case len =>
    obtain ⟨a, D, ws, us, l, gap, n, rfl, _⟩ := h
    rfl
  case body =>
    obtain ⟨a, D, ws, us, l, gap, n, rfl, hT, hws, hl, hlen, hgap, hn, hD, hus, k⟩ := h
    have wlen : ws.length = l.length := by rw [dps_len hws, List.length_map]
    have nd := sc__law_is_even.nd
    have hu := hu_of hr
    have hu64 := hr.units
    have hu65 := hu65_of hr
    refine ⟨_, (Evl.pss_cut (ps_set (i := 3) nd rfl (by first | exact Or.inl rfl | exact Or.inr rfl) (pe_ifExp (pt_cmpR op_gt (pv 1) pe_int (nomark _)) (pe_callTy (c_list K) (by rfl) W.T.b_list (by decide +kernel) (pa_cons (pe_slice (k_slT K) (pv 0) (po_some (pe_op op_sub (pv 1) pe_int)) (po_some (pv 1))) pa_nil)) (pe_lst pa_nil)))
  (Evl.pss_cut (ps_set (i := 4) nd rfl (by first | exact Or.inl rfl | exact Or.inr rfl) (pe_op op_cat (pe_op op_cat (pv 3) (pv 2)) (pe_callTy (c_list K) (by rfl) W.T.b_list (by decide +kernel) (pa_cons (pe_slice (k_slT K) (pv 0) (po_some (pv 1)) (po_some (pe_op op_add (pv 1) pe_int))) pa_nil))))
  (Evl.pss_cut (ps_set (i := 6) nd rfl (by first | exact Or.inl rfl | exact Or.inr rfl) (pe_lc (own := [("k", 5)]) rfl nd (pi_range1 rfl W.T.b_range (pa_cons (pe_op op_sub (pe_callB (c_len K) (by rfl) W.T.b_len (by decide +kernel) (pa_cons (pv 4) pa_nil)) pe_int) pa_nil)) (blkOk_by (N := N__law_is_even) (sc := defScope s__law_is_even) (by decide +kernel)) (fun _ _ _ _ _ => (pg_name (i := 5) nd rfl (by first | exact Or.inl rfl | exact Or.inr rfl))) (fun _ _ _ _ _ => pts_nil) (fun _ _ _ _ _ => (pe_call (ok__law_apart W) (hr.mono (by first | decide | omega)) rfl W.D__law_apart.g W.D__law_apart.F.kp W.D__law_apart.b .nil pass0 (pa_cons (pe_ix (k_ixL K) (pv 4) (pe_op op_add (pv 5) pe_int) (fun _ _ => rfl)) (pa_cons (pe_ix (k_ixL K) (pv 4) (pv 5) (fun _ _ => rfl)) pa_nil))))))
  (pss_cons (ps_if (PW.pt (pw_and (pt_cmpR op_gt (pv 1) pe_int (nomark _)) (pw_and1 (pt_cmpR op_lt (pv 1) (pe_callB (c_len K) (by rfl) W.T.b_len (by decide +kernel) (pa_cons (pv 0) pa_nil)) (nomark _)))))
     (pss_one (ps_ret (pe_callB (c_all K rfl) (by rfl) W.T.b_all (by decide +kernel) (pa_cons (pe_lc (own := [("step", 7)]) rfl nd (i_list K (pv 6)) (blkOk_by (N := N__law_is_even) (sc := defScope s__law_is_even) (by decide +kernel)) (fun _ _ _ _ _ => (pg_name (i := 7) nd rfl (by first | exact Or.inl rfl | exact Or.inr rfl))) (fun _ _ _ _ _ => pts_nil) (fun _ _ _ _ _ => (pe_cmpR (k_eqD K hu64) (pv 7) (pe_ix (k_ixL K) (pv 6) pe_int (fun _ _ => rfl)) (nomark _)))) pa_nil))))
     pss_nil)
  (pss_one (ps_ret (pe_callB (c_all K rfl) (by rfl) W.T.b_all (by decide +kernel) (pa_cons (pe_lc (own := [("step", 7)]) rfl nd (i_list K (pv 6)) (blkOk_by (N := N__law_is_even) (sc := defScope s__law_is_even) (by decide +kernel)) (fun _ _ _ _ _ => (pg_name (i := 7) nd rfl (by first | exact Or.inl rfl | exact Or.inr rfl))) (fun _ _ _ _ _ => pts_nil) (fun _ _ _ _ _ => (pe_cmpR (k_eqD K hu64) (pv 7) (pe_tup (pa_cons pe_int (pa_cons pe_int pa_nil))) (nomark _)))) pa_nil)))))))), ?_⟩
    simp only [tSeq, tIfS, tNext, tRet, tRetN, tAsg, tDrop, tPar, tCons, tNil, tCB, tVar, tC, tOp, rI, rI0, rU, tTest, tB, tTup, tLst, gName, tIf, tAnd, tOr, tNot, tAndV, tOrV, tNotV, tUn, tCall, tChain, tSl, tNoPart, tPart, tBM, tBM0, tDGet, sDPut, tAugS, ipI, rIxT, rIxL, rMulK, rLenK, rLstK, tTruK, gTup, gCons, gNil, rEq, rNe, scal, tNever, rMulK, rGcd, L2.start, List.map, List.length, List.replicate, List.cons_append, List.nil_append, List.append_nil, List.set, List.set_cons_zero, List.set_cons_succ, List.getElem?_cons_succ, List.getElem?_cons_zero, Option.some.injEq, List.cons.injEq, V.int.injEq, V.str.injEq, V.bl.injEq, V.ref.injEq, and_true, true_and, exists_eq_left, exists_eq_left', exists_eq_right, exists_eq_right', exists_eq, exists_and_left, exists_and_right, and_assoc, exists_false, false_and, and_false, or_false, false_or, reduceCtorEq, Nat.reduceAdd, Nat.reduceSub, List.append_assoc, eq_self, if_true, if_false, Bool.false_eq_true, decide_eq_true_eq, List.length_cons, List.length_nil]
    have low1 : (lowL l gap).length ≤ 1 := by unfold lowL; split <;> simp; omega
    refine ⟨EvI1 K a D gap (lowL l gap) H, ?_, ?_⟩
    · simp only [tSeq, tIfS, tNext, tRet, tRetN, tAsg, tDrop, tPar, tCons, tNil, tCB, tVar, tC, tOp, rI, rI0, rU, tTest, tB, tTup, tLst, gName, tIf, tAnd, tOr, tNot, tAndV, tOrV, tNotV, tUn, tCall, tChain, tSl, tNoPart, tPart, tBM, tBM0, tDGet, sDPut, tAugS, ipI, rIxT, rIxL, rMulK, rLenK, rLstK, tTruK, gTup, gCons, gNil, rEq, rNe, scal, tNever, rMulK, rGcd, L2.start, List.map, List.length, List.replicate, List.cons_append, List.nil_append, List.append_nil, List.set, List.set_cons_zero, List.set_cons_succ, List.getElem?_cons_succ, List.getElem?_cons_zero, Option.some.injEq, List.cons.injEq, V.int.injEq, V.str.injEq, V.bl.injEq, V.ref.injEq, and_true, true_and, exists_eq_left, exists_eq_left', exists_eq_right, exists_eq_right', exists_eq, exists_and_left, exists_and_right, and_assoc, exists_false, false_and, and_false, or_false, false_or, reduceCtorEq, Nat.reduceAdd, Nat.reduceSub, List.append_assoc, eq_self, if_true, if_false, Bool.false_eq_true, decide_eq_true_eq, List.length_cons, List.length_nil]
      refine ite2 (fun c => ?_) (fun c => ?_)
      · have c' : 0 < gap := by omega
        rw [show (gap : Int) - 1 = ((gap - 1 : Nat) : Int) by omega]
        refine slT hT fun b H' k' hb => ⟨_, rfl, _, Or.inr hb, fun p hp => ⟨p, _, rfl, k'.at (none0 k' hp), upd_same, ?_⟩⟩
        have e : (lowL l gap).map ptD = ((l.map ptD).drop (gap - 1)).take (gap - (gap - 1)) := by
          unfold lowL
          rw [if_pos c', show gap - (gap - 1) = 1 by omega, List.map_take, List.map_drop]
        rw [e]
        exact dps_tk ((Tk.of0 k').trans (Tk.new hp)) _ _ (by rw [← e]; exact ptDs_tup _) (dps_take _ (dps_drop _ hws))
      · refine ⟨by decide, fun p hp => ⟨p, _, rfl, Kp.new hp, upd_same, ?_⟩⟩
        have e : lowL l gap = [] := by unfold lowL; rw [if_neg (by omega)]
        rw [e]; exact .nil
    rintro σ H1 ⟨p, zs, rfl, k1, hp, hzs⟩
    refine ⟨EvI2 K a D gap (evenRow l gap n) H, ?_, ?_⟩
    · simp only [tSeq, tIfS, tNext, tRet, tRetN, tAsg, tDrop, tPar, tCons, tNil, tCB, tVar, tC, tOp, rI, rI0, rU, tTest, tB, tTup, tLst, gName, tIf, tAnd, tOr, tNot, tAndV, tOrV, tNotV, tUn, tCall, tChain, tSl, tNoPart, tPart, tBM, tBM0, tDGet, sDPut, tAugS, ipI, rIxT, rIxL, rMulK, rLenK, rLstK, tTruK, gTup, gCons, gNil, rEq, rNe, scal, tNever, rMulK, rGcd, L2.start, List.map, List.length, List.replicate, List.cons_append, List.nil_append, List.append_nil, List.set, List.set_cons_zero, List.set_cons_succ, List.getElem?_cons_succ, List.getElem?_cons_zero, Option.some.injEq, List.cons.injEq, V.int.injEq, V.str.injEq, V.bl.injEq, V.ref.injEq, and_true, true_and, exists_eq_left, exists_eq_left', exists_eq_right, exists_eq_right', exists_eq, exists_and_left, exists_and_right, and_assoc, exists_false, false_and, and_false, or_false, false_or, reduceCtorEq, Nat.reduceAdd, Nat.reduceSub, List.append_assoc, eq_self, if_true, if_false, Bool.false_eq_true, decide_eq_true_eq, List.length_cons, List.length_nil]
      have zl : zs.length = (lowL l gap).length := by rw [dps_len hzs, List.length_map]
      have ul : us.length = n := by rw [dps_len hus, List.length_map, spread_len]
      refine ⟨p, D, zs, us, rfl, rfl, hp, k1 D _ hD (fun z => z), by rw [sizeLine_eq]; omega, fun r hr1 => ?_⟩
      rw [show (gap : Int) + 1 = ((gap + 1 : Nat) : Int) by omega]
      have k1' : Kp M0 H (upd H1 r (HO.lst (zs ++ us))) := k1.at (none0 k1 hr1)
      refine slT (sqT_tk (Tk.of0 k1') hT) fun b H' k' hb => ⟨_, rfl, _, Or.inr hb, fun t ht => ?_⟩
      have hr2 : H' r = some (.lst (zs ++ us)) := k' r _ upd_same (fun z => z)
      have nrt : r ≠ t := ne_of_none hr2 ht
      refine ⟨r, t, zs ++ us, _, rfl, rfl, (by rw [upd_ne nrt]; exact hr2), upd_same, ?_, fun z hz => ⟨z, _, _, rfl, ((k1'.trans k').at (none0 (k1'.trans k') ht)).at (none0 ((k1'.trans k').trans (Kp.new ht)) hz), upd_same, ?_⟩⟩
      · rw [sizeLine_eq, List.length_append, List.length_take]; omega
      · have kz : Kp M0 H1 (upd (upd H' t (HO.lst (List.take (gap + 1 - gap) (List.drop gap ws)))) z (HO.lst (zs ++ us ++ List.take (gap + 1 - gap) (List.drop gap ws)))) :=
          ((((Kp.new hr1).trans k').trans (Kp.new ht)).trans (Kp.new hz))
        rw [even_split, List.map_append, List.map_append]
        refine dps_app (dps_app (dps_tk (Tk.of0 kz) _ _ (ptDs_tup _) hzs) (dps_tk (Tk.of0 (k1.trans kz)) _ _ (ptDs_tup _) hus)) ?_
        have e : ((l.drop gap).take 1).map ptD = ((l.map ptD).drop gap).take (gap + 1 - gap) := by
          rw [show gap + 1 - gap = 1 by omega, List.map_take, List.map_drop]
        rw [e]
        exact dps_tk (Tk.of0 (k1.trans kz)) _ _ (by rw [← e]; exact ptDs_tup _) (dps_take _ (dps_drop _ hws))
    rintro σ H2 ⟨q, rs, v3, rfl, k2, hq, hrs⟩
    obtain ⟨m, f, er, hm, hf, hc1, hc2⟩ := (even_ok (l := l) (gap := gap) (n := n) hl hgap hn).ex
    rw [er] at hrs
    have rlen : rs.length = m := by rw [dps_len hrs]; simp
    refine ⟨EvI3 K a D gap ((List.range (m - 1)).map fun k => apartP (f (k + 1)) (f k)) H, ?_, ?_⟩
    · simp only [tSeq, tIfS, tNext, tRet, tRetN, tAsg, tDrop, tPar, tCons, tNil, tCB, tVar, tC, tOp, rI, rI0, rU, tTest, tB, tTup, tLst, gName, tIf, tAnd, tOr, tNot, tAndV, tOrV, tNotV, tUn, tCall, tChain, tSl, tNoPart, tPart, tBM, tBM0, tDGet, sDPut, tAugS, ipI, rIxT, rIxL, rMulK, rLenK, rLstK, tTruK, gTup, gCons, gNil, rEq, rNe, scal, tNever, rMulK, rGcd, L2.start, List.map, List.length, List.replicate, List.cons_append, List.nil_append, List.append_nil, List.set, List.set_cons_zero, List.set_cons_succ, List.getElem?_cons_succ, List.getElem?_cons_zero, Option.some.injEq, List.cons.injEq, V.int.injEq, V.str.injEq, V.bl.injEq, V.ref.injEq, and_true, true_and, exists_eq_left, exists_eq_left', exists_eq_right, exists_eq_right', exists_eq, exists_and_left, exists_and_right, and_assoc, exists_false, false_and, and_false, or_false, false_or, reduceCtorEq, Nat.reduceAdd, Nat.reduceSub, List.append_assoc, eq_self, if_true, if_false, Bool.false_eq_true, decide_eq_true_eq, List.length_cons, List.length_nil]
      refine tlcR ?_
      simp only [tSeq, tIfS, tNext, tRet, tRetN, tAsg, tDrop, tPar, tCons, tNil, tCB, tVar, tC, tOp, rI, rI0, rU, tTest, tB, tTup, tLst, gName, tIf, tAnd, tOr, tNot, tAndV, tOrV, tNotV, tUn, tCall, tChain, tSl, tNoPart, tPart, tBM, tBM0, tDGet, sDPut, tAugS, ipI, rIxT, rIxL, rMulK, rLenK, rLstK, tTruK, gTup, gCons, gNil, rEq, rNe, scal, tNever, rMulK, rGcd, L2.start, List.map, List.length, List.replicate, List.cons_append, List.nil_append, List.append_nil, List.set, List.set_cons_zero, List.set_cons_succ, List.getElem?_cons_succ, List.getElem?_cons_zero, Option.some.injEq, List.cons.injEq, V.int.injEq, V.str.injEq, V.bl.injEq, V.ref.injEq, and_true, true_and, exists_eq_left, exists_eq_left', exists_eq_right, exists_eq_right', exists_eq, exists_and_left, exists_and_right, and_assoc, exists_false, false_and, and_false, or_false, false_or, reduceCtorEq, Nat.reduceAdd, Nat.reduceSub, List.append_assoc, eq_self, if_true, if_false, Bool.false_eq_true, decide_eq_true_eq, List.length_cons, List.length_nil]
      refine ⟨rs, Or.inl (sqL_mk hq), ?_⟩
      refine lcRi (K := K) (n := m - 1) (by omega) (by omega) (by omega) (fun k => ptD (apartP (f (k + 1)) (f k))) (fun i _ => rfl) (fun i H' hi k' Q' q' => ?_) fun r H' vs hr1 k' hr2 hvs => ⟨r, vs, _, _, rfl, k2.trans k', hr2, ?_⟩
      · simp only [tSeq, tIfS, tNext, tRet, tRetN, tAsg, tDrop, tPar, tCons, tNil, tCB, tVar, tC, tOp, rI, rI0, rU, tTest, tB, tTup, tLst, gName, tIf, tAnd, tOr, tNot, tAndV, tOrV, tNotV, tUn, tCall, tChain, tSl, tNoPart, tPart, tBM, tBM0, tDGet, sDPut, tAugS, ipI, rIxT, rIxL, rMulK, rLenK, rLstK, tTruK, gTup, gCons, gNil, rEq, rNe, scal, tNever, rMulK, rGcd, L2.start, List.map, List.length, List.replicate, List.cons_append, List.nil_append, List.append_nil, List.set, List.set_cons_zero, List.set_cons_succ, List.getElem?_cons_succ, List.getElem?_cons_zero, Option.some.injEq, List.cons.injEq, V.int.injEq, V.str.injEq, V.bl.injEq, V.ref.injEq, and_true, true_and, exists_eq_left, exists_eq_left', exists_eq_right, exists_eq_right', exists_eq, exists_and_left, exists_and_right, and_assoc, exists_false, false_and, and_false, or_false, false_or, reduceCtorEq, Nat.reduceAdd, Nat.reduceSub, List.append_assoc, eq_self, if_true, if_false, Bool.false_eq_true, decide_eq_true_eq, List.length_cons, List.length_nil]
        have item : ∀ {j : Nat}, j < m → ∃ v, rs[j]? = some v ∧ Dp K H' v (ptD (f j)) := fun {j} hj => by
          obtain ⟨v, h1, h2⟩ := dps_get' (i := j) (d := ptD (f j)) hrs (by simp [hj])
          exact ⟨v, h1, dp_tk (Tk.of0 k') _ _ rfl h2⟩
        obtain ⟨v1, e1, d1⟩ := item (j := i + 1) (by omega)
        obtain ⟨v0, e0, d0⟩ := item (j := i) (by omega)
        have hq' := SqL.keep (K := K) (sqL_mk hq) k'
        refine ⟨rs, hq', v1, (by rw [show (i : Int) + 1 = ((i + 1 : Nat) : Int) by omega]; exact atI_nat e1), rs, hq', v0, atI_nat e0, v1, v0, f (i + 1), f i, rfl, d1, d0, (hf _ (by omega)).1, (hf _ (by omega)).1, (hf _ (by omega)).2.mono (by omega), (hf _ (by omega)).2.mono (by omega), fun v H4 k4 d4 => q' v H4 k4 d4⟩
      · rw [List.map_map]; exact hvs
    rintro σ H3 ⟨r, ts, v3, v4, rfl, k3, hr3, hts⟩
    have steps : ∀ (C : Pt) (te : TE), (∀ k, k + 1 < m → apartP (f (k + 1)) (f k) = C) → (∀ (x : V) (H' : Hp) (Q' : VK), Kp M0 H3 H' → Dp K H' x (ptD C) → (0 < m - 1) → (∀ H4, Kp M0 H' H4 → Q' (.bl true) H4) → te [some (V.ref a), some (V.int ↑gap), some (V.ref D), v3, v4, none, some (V.ref r), some x] H' Q') →
        tLc (iList K (tVar 6)) (gName 7) tYes te [7] [some (V.ref a), some (V.int ↑gap), some (V.ref D), v3, v4, none, some (V.ref r), none] H3 fun x H1 => rAll K [x] H1 Q := by
      intro C te hC hte
      refine tlcL ?_
      refine ⟨_, rfl, ?_⟩
      have same : ((List.range (m - 1)).map fun k => apartP (f (k + 1)) (f k)).map ptD = (List.range (m - 1)).map fun _ => ptD C := by
        rw [List.map_map]
        exact List.map_congr_left fun k hk => by
          have := List.mem_range.mp hk
          show ptD (apartP (f (k + 1)) (f k)) = ptD C
          rw [hC k (by omega)]
      rw [same] at hts
      have dC : ∀ {i d}, ((List.range (m - 1)).map fun _ => ptD C)[i]? = some d → d = ptD C ∧ 0 < m - 1 := fun {i d} e => by
        have := List.mem_of_getElem? e
        obtain ⟨j, hj, rfl⟩ := List.mem_map.mp this
        have := List.mem_range.mp hj
        exact ⟨rfl, by omega⟩
      refine lcL (K := K) ((List.range (m - 1)).map fun _ => ptD C) (fun _ => true) (fun _ => .bool true) (by rw [sizeLine_eq]; simp; omega) (sqL_mk hr3) hts (by rw [← same]; exact ptDs_tup _) (fun _ _ _ => rfl) htt_yes (fun i d x H' e _ hx k' Q' q' => ?_) fun b H' vs hb k' hb2 hvs => ?_
      · obtain ⟨rfl, pos⟩ := dC e
        exact hte x H' Q' k' hx pos fun H4 k4 => q' _ _ k4 (.bl true)
      · have e2 : (((List.range (m - 1)).map fun _ => ptD C).filter fun _ => true).map (fun _ => PyData.bool true) = ((List.range (m - 1)).map fun _ => true).map PyData.bool := by
          rw [List.filter_eq_self.mpr (fun _ _ => rfl), List.map_map, List.map_map]; rfl
        rw [e2] at hvs
        have hv := dps_bools hvs
        subst hv
        refine ⟨b, _, rfl, sqL_mk hb2, ?_⟩
        rw [show ((List.range (m - 1)).map fun _ => true).all id = true by simp]
        exact k H' (k3.trans k')
    simp only [tSeq, tIfS, tNext, tRet, tRetN, tAsg, tDrop, tPar, tCons, tNil, tCB, tVar, tC, tOp, rI, rI0, rU, tTest, tB, tTup, tLst, gName, tIf, tAnd, tOr, tNot, tAndV, tOrV, tNotV, tUn, tCall, tChain, tSl, tNoPart, tPart, tBM, tBM0, tDGet, sDPut, tAugS, ipI, rIxT, rIxL, rMulK, rLenK, rLstK, tTruK, gTup, gCons, gNil, rEq, rNe, scal, tNever, rMulK, rGcd, L2.start, List.map, List.length, List.replicate, List.cons_append, List.nil_append, List.append_nil, List.set, List.set_cons_zero, List.set_cons_succ, List.getElem?_cons_succ, List.getElem?_cons_zero, Option.some.injEq, List.cons.injEq, V.int.injEq, V.str.injEq, V.bl.injEq, V.ref.injEq, and_true, true_and, exists_eq_left, exists_eq_left', exists_eq_right, exists_eq_right', exists_eq, exists_and_left, exists_and_right, and_assoc, exists_false, false_and, and_false, or_false, false_or, reduceCtorEq, Nat.reduceAdd, Nat.reduceSub, List.append_assoc, eq_self, if_true, if_false, Bool.false_eq_true, decide_eq_true_eq, List.length_cons, List.length_nil]
    have other : ¬ (0 < gap ∧ gap < l.length) → tLc (iList K (tVar 6)) (gName 7) tYes
          (tOp (rEqD K) (tVar 7) (tTup (tCons (tC (V.int 1)) (tCons (tC (V.int 1)) tNil)))) [7]
          [some (V.ref a), some (V.int ↑gap), some (V.ref D), v3, v4, none, some (V.ref r), none] H3 fun x H1 =>
          rAll K [x] H1 Q := fun c => by
      refine steps (1, 1) _ (hc2 c) fun x H' Q' k' hx pos q' => ?_
      simp only [tSeq, tIfS, tNext, tRet, tRetN, tAsg, tDrop, tPar, tCons, tNil, tCB, tVar, tC, tOp, rI, rI0, rU, tTest, tB, tTup, tLst, gName, tIf, tAnd, tOr, tNot, tAndV, tOrV, tNotV, tUn, tCall, tChain, tSl, tNoPart, tPart, tBM, tBM0, tDGet, sDPut, tAugS, ipI, rIxT, rIxL, rMulK, rLenK, rLstK, tTruK, gTup, gCons, gNil, rEq, rNe, scal, tNever, rMulK, rGcd, L2.start, List.map, List.length, List.replicate, List.cons_append, List.nil_append, List.append_nil, List.set, List.set_cons_zero, List.set_cons_succ, List.getElem?_cons_succ, List.getElem?_cons_zero, Option.some.injEq, List.cons.injEq, V.int.injEq, V.str.injEq, V.bl.injEq, V.ref.injEq, and_true, true_and, exists_eq_left, exists_eq_left', exists_eq_right, exists_eq_right', exists_eq, exists_and_left, exists_and_right, and_assoc, exists_false, false_and, and_false, or_false, false_or, reduceCtorEq, Nat.reduceAdd, Nat.reduceSub, List.append_assoc, eq_self, if_true, if_false, Bool.false_eq_true, decide_eq_true_eq, List.length_cons, List.length_nil]
      refine ⟨by decide, fun p hp => ⟨_, _, dp_tk (Tk.new hp) _ _ rfl hx, pt_mk (p := 1) (q := 1) (sqT_mk upd_same), ptD_shaped _, ptD_shaped _, ?_⟩⟩
      rw [ptD_eqv]
      simpa using q' _ (Kp.new hp)
    refine ite2 (fun c => ?_) (fun c => other (by omega))
    refine ⟨ws, Or.inr (sqT_tk (Tk.of0 k3) hT), ?_⟩
    refine ite2 (fun c2 => ?_) (fun c2 => other (by omega))
    obtain ⟨C, hC⟩ := hc1 (by omega)
    refine steps C _ hC fun x H' Q' k' hx pos q' => ?_
    simp only [tSeq, tIfS, tNext, tRet, tRetN, tAsg, tDrop, tPar, tCons, tNil, tCB, tVar, tC, tOp, rI, rI0, rU, tTest, tB, tTup, tLst, gName, tIf, tAnd, tOr, tNot, tAndV, tOrV, tNotV, tUn, tCall, tChain, tSl, tNoPart, tPart, tBM, tBM0, tDGet, sDPut, tAugS, ipI, rIxT, rIxL, rMulK, rLenK, rLstK, tTruK, gTup, gCons, gNil, rEq, rNe, scal, tNever, rMulK, rGcd, L2.start, List.map, List.length, List.replicate, List.cons_append, List.nil_append, List.append_nil, List.set, List.set_cons_zero, List.set_cons_succ, List.getElem?_cons_succ, List.getElem?_cons_zero, Option.some.injEq, List.cons.injEq, V.int.injEq, V.str.injEq, V.bl.injEq, V.ref.injEq, and_true, true_and, exists_eq_left, exists_eq_left', exists_eq_right, exists_eq_right', exists_eq, exists_and_left, exists_and_right, and_assoc, exists_false, false_and, and_false, or_false, false_or, reduceCtorEq, Nat.reduceAdd, Nat.reduceSub, List.append_assoc, eq_self, if_true, if_false, Bool.false_eq_true, decide_eq_true_eq, List.length_cons, List.length_nil]
    have r3 := SqL.keep (K := K) (sqL_mk hr3) k'
    obtain ⟨v0, e0, d0⟩ := dps_get' (i := 0) (d := ptD C) hts (by simp [pos, hC 0 (by omega)])
    refine ⟨ts, r3, v0, atI_nat (j := 0) e0, _, _, hx, dp_tk (Tk.of0 k') _ _ rfl d0, ptD_shaped _, ptD_shaped _, ?_⟩
    rw [ptD_eqv]
    simpa using q' _ (Kp.refl _)
end
end G
set_option Elab.async false
set_option linter.all false
set_option maxRecDepth 100000
set_option exponentiation.threshold 10000
namespace G
open PySem L2
section
variable {P : Program} {w : World} {K : PySem.W.Frag} {mg : Str → Option Value} {base : Heap}
def sp__law_gap_due (K : PySem.W.Frag) : Sp := fun vs H Q _ => ∃ (a : Addr) (v : V) (ws : List V) (l : List Pt) (x : Pt), vs = [.ref a, v] ∧ SqT K H a ws ∧ DpAll K H ws (l.map ptD) ∧ Dp K H v (ptD x) ∧ PtsOk 4000 l ∧ l.length < 1000 ∧ PtOk x ∧ Sz 4000 x ∧
  ∀ (H' : Hp), Kp M0 H H' → Q (gapV l x) H'
def DueI (a : Addr) (v : V) (l : List Pt) (x : Pt) (H : Hp) (i : Nat) (σ : L2.St) (H' : Hp) : Prop :=
  ∃ v2 v3, σ = [some (.ref a), some v, v2, v3] ∧ Kp M0 H H' ∧ ∀ j y, j < i → l[j]? = some y → ltP y x
theorem ok__law_gap_due (W : Ds K mg) : FnOk P w K mg base CX0 2 W.f__law_gap_due W.fd__law_gap_due P__law_gap_due (sp__law_gap_due K) := by
  refine W.D__law_gap_due.F.ok sc__law_gap_due (fun vs H Q E h => ?len) (fun cdv A outer s H vs Q E hr h => ?body)
  case len =>
    obtain ⟨a, v, ws, l, x, rfl, _⟩ := h
    rfl
  case body =>
    obtain ⟨a, v, ws, l, x, rfl, hT, hws, hv, hl, hlen, ox, sx, k⟩ := h
    have wlen : ws.length = l.length := by rw [dps_len hws, List.length_map]
    have nd := sc__law_gap_due.nd
    have hu := hu_of hr
    have hu64 := hr.units
    have hu65 := hu65_of hr
    refine ⟨_, (pss_cons (ps_for PassesOwn.never rfl (i_enumT K (by rfl) W.T.b_enumerate (pa_cons (pv 0) pa_nil)) (g_tup K (pg_tup (n := 2) rfl (pgs_cons (pg_name (i := 2) nd rfl (by first | exact Or.inl rfl | exact Or.inr rfl)) (pgs_cons (pg_name (i := 3) nd rfl (by first | exact Or.inl rfl | exact Or.inr rfl)) pgs_nil))))
     (pss_cons (ps_if (pt_cmpR (k_eqD K hu64) (pv 3) (pv 1) (nomark _))
         (pss_one (ps_ret pe_non))
         pss_nil)
      (pss_one (ps_if (pt_val (pe_call (ok__law_less W) (hr.mono (by first | decide | omega)) rfl W.D__law_less.g W.D__law_less.F.kp W.D__law_less.b .nil pass0 (pa_cons (pv 1) (pa_cons (pv 3) pa_nil))))
         (pss_one (ps_ret (pv 2)))
         pss_nil))))
  (pss_one (ps_ret (pe_callB (c_len K) (by rfl) W.T.b_len (by decide +kernel) (pa_cons (pv 0) pa_nil))))), ?_⟩
    simp only [tSeq, tIfS, tNext, tRet, tRetN, tAsg, tDrop, tPar, tCons, tNil, tCB, tVar, tC, tOp, rI, rI0, rU, tTest, tB, tTup, tLst, gName, tIf, tAnd, tOr, tNot, tAndV, tOrV, tNotV, tUn, tCall, tChain, tSl, tNoPart, tPart, tBM, tBM0, tDGet, sDPut, tAugS, ipI, rIxT, rIxL, rMulK, rLenK, rLstK, tTruK, gTup, gCons, gNil, rEq, rNe, scal, tNever, rMulK, rGcd, L2.start, List.map, List.length, List.replicate, List.cons_append, List.nil_append, List.append_nil, List.set, List.set_cons_zero, List.set_cons_succ, List.getElem?_cons_succ, List.getElem?_cons_zero, Option.some.injEq, List.cons.injEq, V.int.injEq, V.str.injEq, V.bl.injEq, V.ref.injEq, and_true, true_and, exists_eq_left, exists_eq_left', exists_eq_right, exists_eq_right', exists_eq, exists_and_left, exists_and_right, and_assoc, exists_false, false_and, and_false, or_false, false_or, reduceCtorEq, Nat.reduceAdd, Nat.reduceSub, List.append_assoc, eq_self, if_true, if_false, Bool.false_eq_true, decide_eq_true_eq, List.length_cons, List.length_nil]
    refine ⟨_, rfl, a, ws, rfl, hT, ?_⟩
    refine for_enumT (xs := ws) (DueI a v l x H) ⟨none, none, rfl, Kp.refl H, fun j y hj => by omega⟩ ?_ ?_ ?_
    · rintro i σ H1 hi ⟨v2, v3, rfl, k1, hb⟩
      exact sqT_tk (Tk.of0 k1) hT
    · rintro i u T σ H1 hu1 ⟨v2, v3, rfl, k1, hb⟩ hT1
      have il : i < l.length := by have := (List.getElem?_eq_some_iff.mp hu1).1; omega
      have hi := atP_some il
      obtain ⟨v', e1, dy⟩ := pts_item hws il
      rw [hu1] at e1
      obtain rfl := Option.some.inj e1
      have mem := List.mem_of_getElem? hi
      have oy := hl.ok _ mem
      have kT : Kp M0 H (upd H1 T (HO.tup [.int (i : Nat), u])) := k1.at (none0 k1 hT1)
      generalize atP l i = y at *
      simp only [tSeq, tIfS, tNext, tRet, tRetN, tAsg, tDrop, tPar, tCons, tNil, tCB, tVar, tC, tOp, rI, rI0, rU, tTest, tB, tTup, tLst, gName, tIf, tAnd, tOr, tNot, tAndV, tOrV, tNotV, tUn, tCall, tChain, tSl, tNoPart, tPart, tBM, tBM0, tDGet, sDPut, tAugS, ipI, rIxT, rIxL, rMulK, rLenK, rLstK, tTruK, gTup, gCons, gNil, rEq, rNe, scal, tNever, rMulK, rGcd, L2.start, List.map, List.length, List.replicate, List.cons_append, List.nil_append, List.append_nil, List.set, List.set_cons_zero, List.set_cons_succ, List.getElem?_cons_succ, List.getElem?_cons_zero, Option.some.injEq, List.cons.injEq, V.int.injEq, V.str.injEq, V.bl.injEq, V.ref.injEq, and_true, true_and, exists_eq_left, exists_eq_left', exists_eq_right, exists_eq_right', exists_eq, exists_and_left, exists_and_right, and_assoc, exists_false, false_and, and_false, or_false, false_or, reduceCtorEq, Nat.reduceAdd, Nat.reduceSub, List.append_assoc, eq_self, if_true, if_false, Bool.false_eq_true, decide_eq_true_eq, List.length_cons, List.length_nil]
      refine ⟨_, sqT_mk upd_same, rfl, _, _, rfl, _, _, rfl, rfl, ?_⟩
      refine ⟨_, _, dp_tk (Tk.of0 kT) _ _ rfl dy, dp_tk (Tk.of0 kT) _ _ rfl hv, ptD_shaped _, ptD_shaped _, ?_⟩
      rw [ptD_eqv]
      have later : ∀ j z, i < j → l[j]? = some z → ltP y z := fun j z h1 h2 => asc_get hl.asc h1 hi h2
      have low : ∀ j z, i ≤ j → l[j]? = some z → ltP z x → ltP y x := fun j z h1 h2 h3 => by
        by_cases e : i = j
        · subst e; rw [hi] at h2; cases h2; exact h3
        · exact lt_trans oy.pos (hl.ok _ (List.mem_of_getElem? h2)).pos ox.pos (later j z (by omega) h2) h3
      refine ⟨_, rfl, ?_⟩
      refine ite2 (fun c => ?_) (fun c => ?_)
      · have e : y = x := by simpa using c
        subst e
        have en : lessN l y = i := lessN_eq (by omega) hb fun j z h1 h2 h3 => lt_irrefl _ (low j z h1 h2 h3)
        have ec : codeP l y = 2 * i + 1 := by unfold codeP; rw [en, if_pos hi]
        have eg : gapV l y = .non := by unfold gapV; rw [ec, if_pos (by omega)]
        rw [eg] at k
        exact k _ kT
      have ne : y ≠ x := fun e => by rw [e] at c; simp at c
      refine ⟨v, u, x, y, rfl, dp_tk (Tk.of0 kT) _ _ rfl hv, dp_tk (Tk.of0 kT) _ _ rfl dy, sx, hl.sz _ mem, ?_⟩
      refine ⟨_, rfl, ?_⟩
      refine ite2 (fun c1 => ?_) (fun c1 => ?_)
      · have c1' : ltP x y := by simpa using c1
        have en : lessN l x = i := lessN_eq (by omega) hb fun j z h1 h2 h3 => lt_asymm c1' (low j z h1 h2 h3)
        have ec : codeP l x = 2 * i := by unfold codeP; rw [en, if_neg (fun z => ne (Option.some.inj (hi.symm.trans z)))]
        have eg : gapV l x = .int (i : Nat) := by unfold gapV; rw [ec, if_neg (by omega), show 2 * i / 2 = i by omega]
        rw [eg] at k
        exact k _ kT
      · have c1' : ¬ ltP x y := by simpa using c1
        have yx : ltP y x := by
          rcases lt_tri ox oy with h | h | h
          · exact absurd h c1'
          · exact absurd h.symm ne
          · exact h
        refine ⟨_, _, rfl, kT, fun j z h1 h2 => ?_⟩
        by_cases e : j = i
        · subst e; rw [hi] at h2; cases h2; exact yx
        · exact hb j z (by omega) h2
    · rintro σ H1 ⟨v2, v3, rfl, k1, hb⟩
      simp only [tSeq, tIfS, tNext, tRet, tRetN, tAsg, tDrop, tPar, tCons, tNil, tCB, tVar, tC, tOp, rI, rI0, rU, tTest, tB, tTup, tLst, gName, tIf, tAnd, tOr, tNot, tAndV, tOrV, tNotV, tUn, tCall, tChain, tSl, tNoPart, tPart, tBM, tBM0, tDGet, sDPut, tAugS, ipI, rIxT, rIxL, rMulK, rLenK, rLstK, tTruK, gTup, gCons, gNil, rEq, rNe, scal, tNever, rMulK, rGcd, L2.start, List.map, List.length, List.replicate, List.cons_append, List.nil_append, List.append_nil, List.set, List.set_cons_zero, List.set_cons_succ, List.getElem?_cons_succ, List.getElem?_cons_zero, Option.some.injEq, List.cons.injEq, V.int.injEq, V.str.injEq, V.bl.injEq, V.ref.injEq, and_true, true_and, exists_eq_left, exists_eq_left', exists_eq_right, exists_eq_right', exists_eq, exists_and_left, exists_and_right, and_assoc, exists_false, false_and, and_false, or_false, false_or, reduceCtorEq, Nat.reduceAdd, Nat.reduceSub, List.append_assoc, eq_self, if_true, if_false, Bool.false_eq_true, decide_eq_true_eq, List.length_cons, List.length_nil]
      refine ⟨ws, Or.inr (sqT_tk (Tk.of0 k1) hT), ?_⟩
      have en : lessN l x = l.length := lessN_eq (Nat.le_refl _) (fun j z h1 h2 => hb j z (by omega) h2) fun j z h1 h2 => by
        have := (List.getElem?_eq_some_iff.mp h2).1; omega
      have ec : codeP l x = 2 * l.length := by unfold codeP; rw [en, if_neg (by simp)]
      have eg : gapV l x = .int (l.length : Nat) := by unfold gapV; rw [ec, if_neg (by omega), show 2 * l.length / 2 = l.length by omega]
      rw [eg, ← wlen] at k
      exact k _ k1
end
end G
set_option Elab.async false
set_option linter.all false
set_option maxRecDepth 100000
set_option exponentiation.threshold 10000
namespace G
open PySem L2

/-! ### texts of ints and points -/
theorem int_shown {i : Int} {b : Nat} (hb : 0 < b) (h : i.natAbs < 2 ^ b) : (PyData.shown (.int i)).length ≤ b + 1 := by
  have p : (2 : Nat) ^ b ≤ 10 ^ b := Nat.pow_le_pow_left (by omega) b
  have e : PyData.shown (.int i) = Str.ofString (toString i) := by simp [PyData.shown]
  rw [e, PyProof.Rows.ofString_length]
  cases i with
  | ofNat n =>
    have l := PyProof.Rows.digits10_le (k := b) (n := n) hb (by simp at h; omega)
    have : (toString (Int.ofNat n)).toList = Nat.toDigits 10 n := by
      show (Nat.repr n).toList = _
      simp [Nat.repr]
    rw [this]; omega
  | negSucc n =>
    have l := PyProof.Rows.digits10_le (k := b) (n := n + 1) hb (by simp at h; omega)
    have : (toString (Int.negSucc n)).toList = '-' :: Nat.toDigits 10 (n + 1) := by
      show ("-" ++ Nat.repr (n + 1)).toList = _
      simp [Nat.repr]
    rw [this, List.length_cons]; omega
theorem log2_bits {n b : Nat} (hb : 0 < b) (h : n < 2 ^ b) : n.log2 < b := by
  rcases Nat.eq_zero_or_pos n with h0 | hp
  · rw [h0]; simpa using hb
  · exact (Nat.log2_lt (Nat.ne_of_gt hp)).mpr h
structure ShOk (d : PyData) : Prop where
  show' : d.showable = true
  lay : d.canLay0 = true
  depth : d.depth ≤ 60
  size : d.shown.length ≤ sizeLine
theorem int_ok {i : Int} (h : i.natAbs < 2 ^ 300) : ShOk (.int i) := by
  refine ⟨?_, rfl, by show 0 ≤ 60; omega, ?_⟩
  · simp only [PyData.showable, decide_eq_true_eq]
    have := log2_bits (by omega) h; omega
  · have := int_shown (by omega) h
    rw [sizeLine_eq]; omega
/-- a list whose parts are flat or points -/
def small1 : PyData → Bool
  | .none => true
  | .int i => decide (i.natAbs < 2 ^ 300)
  | .tuple [.int p, .int q] => decide (p.natAbs < 2 ^ 300) && decide (q.natAbs < 2 ^ 300)
  | _ => false
theorem small1_ok {d : PyData} (h : small1 d = true) : d.showable = true ∧ d.canLay0 = true ∧ d.depth ≤ 1 ∧ d.leavesShort 301 = true ∧ d.weight ≤ 700 := by
  unfold small1 at h
  split at h
  · exact ⟨rfl, rfl, by show 0 ≤ 1; omega, rfl, by show 0 ≤ 700; omega⟩
  · rename_i i
    have h' : i.natAbs < 2 ^ 300 := by simpa using h
    have hs := int_shown (by omega) h'
    have hl := log2_bits (by omega) h'
    refine ⟨by simp only [PyData.showable, decide_eq_true_eq]; omega, rfl, by show 0 ≤ 1; omega, by simp only [PyData.leavesShort, decide_eq_true_eq]; omega, ?_⟩
    simp only [PyData.weight]; split <;> omega
  · rename_i p q
    have h' : p.natAbs < 2 ^ 300 ∧ q.natAbs < 2 ^ 300 := by simpa using h
    have hs := int_shown (by omega) h'.1
    have hl := log2_bits (by omega) h'.1
    have hs2 := int_shown (by omega) h'.2
    have hl2 := log2_bits (by omega) h'.2
    refine ⟨?_, rfl, ?_, ?_, ?_⟩
    · simp only [PyData.showable, PyData.showableAll, Bool.and_eq_true, decide_eq_true_eq]; exact ⟨by omega, by omega, trivial⟩
    · simp [PyData.depth, PyData.depthAll]
    · simp only [PyData.leavesShort, PyData.leavesShortAll, Bool.and_eq_true, decide_eq_true_eq]; exact ⟨by omega, by omega, trivial⟩
    · simp only [PyData.weight, PyData.weightAll]
      split <;> split <;> omega
  · simp at h
theorem smalls_ok : ∀ {ds : List PyData}, (∀ d ∈ ds, small1 d = true) → PyData.showableAll ds = true ∧ PyData.canLayAll0 ds = true ∧ PyData.depthAll ds ≤ 1 ∧ PyData.leavesShortAll 301 ds = true ∧ PyData.weightAll ds ≤ 701 * ds.length
  | [], _ => ⟨rfl, rfl, by show 0 ≤ 1; omega, rfl, by show 0 ≤ _; omega⟩
  | d :: ds, h => by
    obtain ⟨a1, a2, a3, a4, a5⟩ := small1_ok (h d (by simp))
    obtain ⟨b1, b2, b3, b4, b5⟩ := smalls_ok fun x hx => h x (List.mem_cons_of_mem d hx)
    refine ⟨?_, ?_, ?_, ?_, ?_⟩
    · simp only [PyData.showableAll, a1, b1, Bool.and_self]
    · simp only [PyData.canLayAll0, a2, b2, Bool.and_self]
    · simp only [PyData.depthAll]; omega
    · simp only [PyData.leavesShortAll, a4, b4, Bool.and_self]
    · simp only [PyData.weightAll, List.length_cons]; omega
theorem list_ok {ds : List PyData} (h : ∀ d ∈ ds, small1 d = true) (hn : ds.length ≤ 70) : ShOk (.list ds) := by
  obtain ⟨b1, b2, b3, b4, b5⟩ := smalls_ok h
  refine ⟨by simp only [PyData.showable, b1], by simp only [PyData.canLay0, b2], by simp only [PyData.depth]; omega, ?_⟩
  have := PyData.shown_le 301 (by omega) (.list ds) (by simp only [PyData.leavesShort, b4])
  simp only [PyData.weight] at this
  have c : (301 + 2) * PyData.weightAll ds ≤ 303 * (701 * 70) := Nat.mul_le_mul_left _ (Nat.le_trans b5 (Nat.mul_le_mul_left _ hn))
  rw [sizeLine_eq]; omega
theorem pt_small {x : Pt} (h : Sz 300 x) : small1 (ptD x) = true := by
  simp only [ptD, small1, decide_eq_true h.1, decide_eq_true h.2, Bool.and_self]
theorem gap_small {l : List Pt} {y : Pt} (h : l.length < 1000000) : small1 (gapD l y) = true := by
  unfold gapD
  have : lessN l y ≤ l.length := by unfold lessN; exact List.length_filter_le _ _
  split
  · rfl
  · simp only [small1, decide_eq_true_eq]
    have : codeP l y ≤ 2 * 1000000 + 1 := by unfold codeP; split <;> omega
    have := abs_mono (a := ((codeP l y / 2 : Nat) : Int)) (m := 30) (n := 300) (by omega) (by omega)
    exact this
theorem gap_ok {l : List Pt} {y : Pt} (h : l.length < 1000000) : ShOk (gapD l y) := by
  unfold gapD
  have : lessN l y ≤ l.length := by unfold lessN; exact List.length_filter_le _ _
  split
  · exact ⟨rfl, rfl, by show 0 ≤ 60; omega, by decide⟩
  · have : codeP l y ≤ 2 * 1000000 + 1 := by unfold codeP; split <;> omega
    exact int_ok (abs_mono (m := 30) (by omega) (by omega))
theorem list_shaped {ds : List PyData} (h : ∀ d ∈ ds, small1 d = true) : SeqAt.shaped (.list ds) = true := by
  obtain ⟨b1, b2, b3, b4, b5⟩ := smalls_ok h
  have : (PyData.list ds).depth ≤ 2 := by simp only [PyData.depth]; omega
  simp [SeqAt.shaped, PyData.canLay0, b2]
  omega
mutual
theorem eqv_refl1 : ∀ d : PyData, small1 d = true → PyData.eqv d d = true
  | .none, _ => rfl
  | .int i, _ => by simp [PyData.eqv]
  | .tuple [.int p, .int q], _ => by simp [PyData.eqv, PyData.eqvAll]
end
theorem eqvs_refl : ∀ {ds : List PyData}, (∀ d ∈ ds, small1 d = true) → PyData.eqvAll ds ds = true
  | [], _ => rfl
  | d :: ds, h => by
    simp only [PyData.eqvAll, eqv_refl1 d (h d (by simp)), eqvs_refl (ds := ds) fun x hx => h x (List.mem_cons_of_mem d hx), Bool.and_self]
end G
set_option Elab.async false
set_option linter.all false
set_option maxRecDepth 100000
set_option exponentiation.threshold 10000
namespace G
open PySem L2

/-! ### gaps: by what points stand below -/
theorem gap_here {l : List Pt} {y : Pt} {b i : Nat} (hl : PtsOk b l) (hi : l[i]? = some y) : gapV l y = .non ∧ gapD l y = .none := by
  have il := (List.getElem?_eq_some_iff.mp hi).1
  have en : lessN l y = i := lessN_eq (by omega) (fun j z h1 h2 => asc_get hl.asc h1 h2 hi) fun j z h1 h2 h3 => by
    by_cases e : i = j
    · subst e; rw [hi] at h2; cases h2; exact lt_irrefl _ h3
    · exact lt_asymm (asc_get hl.asc (by omega) hi h2) h3
  have ec : codeP l y = 2 * i + 1 := by unfold codeP; rw [en, if_pos hi]
  unfold gapV gapD
  rw [ec, if_pos (by omega), if_pos (by omega)]
  exact ⟨rfl, rfl⟩
theorem gap_at {l : List Pt} {y : Pt} {i : Nat} (hi : i ≤ l.length) (h1 : ∀ j x, j < i → l[j]? = some x → ltP x y) (h2 : ∀ j x, i ≤ j → l[j]? = some x → ltP y x) : gapV l y = .int (i : Nat) ∧ gapD l y = .int (i : Nat) := by
  have en : lessN l y = i := lessN_eq hi h1 fun j z a1 a2 a3 => lt_asymm (h2 j z a1 a2) a3
  have ne : l[i]? ≠ some y := fun e => lt_irrefl _ (h2 i y (Nat.le_refl _) e)
  have ec : codeP l y = 2 * i := by unfold codeP; rw [en, if_neg ne]
  unfold gapV gapD
  rw [ec, if_neg (by omega), if_neg (by omega), show 2 * i / 2 = i by omega]
  exact ⟨rfl, rfl⟩
theorem others_ok {l : List Pt} {b i : Nat} (hl : PtsOk b l) : PtsOk b (l.take i ++ l.drop (i + 1)) := by
  have sub : (l.take i ++ l.drop (i + 1)).Sublist l := by
    have : (l.take i ++ l.drop (i + 1)).Sublist (l.take i ++ l.drop i) := (List.Sublist.refl _).append (by
      rw [show l.drop (i + 1) = (l.drop i).drop 1 by rw [List.drop_drop]]
      exact List.drop_sublist _ _)
    rwa [List.take_append_drop] at this
  exact ⟨fun x h => hl.ok x (sub.subset h), fun x h => hl.sz x (sub.subset h), hl.asc.sublist sub⟩
theorem gap_others {l : List Pt} {y : Pt} {b i : Nat} (hl : PtsOk b l) (hi : l[i]? = some y) : gapV (l.take i ++ l.drop (i + 1)) y = .int (i : Nat) := by
  have il := (List.getElem?_eq_some_iff.mp hi).1
  have lt : (l.take i).length = i := by rw [List.length_take]; omega
  refine (gap_at (by rw [List.length_append, lt]; omega) (fun j x h1 h2 => ?_) fun j x h1 h2 => ?_).1
  · rw [List.getElem?_append_left (by omega), List.getElem?_take_of_lt h1] at h2
    exact asc_get hl.asc h1 h2 hi
  · rw [List.getElem?_append_right (by omega), List.getElem?_drop, lt] at h2
    exact asc_get hl.asc (by omega) hi h2
theorem norm_lt_lo {a b : Pt} {i n : Int} (ha : PtOk a) (hb : PtOk b) (h : ltP a b) (hi : 0 < i) (hn : 0 < n) : ltP a (betP a b i n) := by
  unfold betP
  refine (lt_norm_r (Int.mul_pos (Int.mul_pos ha.pos hb.pos) hn) a).mpr ?_
  unfold ltP at h
  have d : 0 < (b.1 * a.2 - a.1 * b.2) * i * a.2 := Int.mul_pos (Int.mul_pos (by omega) hi) ha.pos
  have e1 : a.1 * (a.2 * b.2 * n) = a.1 * b.2 * n * a.2 := by ac_rfl
  rw [e1, Int.add_mul]
  omega
theorem norm_lt_hi {a b : Pt} {i n : Int} (ha : PtOk a) (hb : PtOk b) (h : ltP a b) (hi : i < n) (hn : 0 < n) : ltP (betP a b i n) b := by
  unfold betP
  refine (lt_norm_l (Int.mul_pos (Int.mul_pos ha.pos hb.pos) hn) b).mpr ?_
  unfold ltP at h
  have d : 0 < (b.1 * a.2 - a.1 * b.2) * (n - i) * b.2 := Int.mul_pos (Int.mul_pos (by omega) (by omega)) hb.pos
  have e1 : b.1 * (a.2 * b.2 * n) = b.1 * a.2 * n * b.2 := by ac_rfl
  rw [e1, ← Int.sub_pos]
  have e2 : b.1 * a.2 * n * b.2 - (a.1 * b.2 * n + (b.1 * a.2 - a.1 * b.2) * i) * b.2 = (b.1 * a.2 - a.1 * b.2) * (n - i) * b.2 := by
    rw [← Int.sub_mul]
    congr 1
    rw [Int.mul_sub, Int.sub_mul (b.1 * a.2) (a.1 * b.2) n]
    generalize (b.1 * a.2 - a.1 * b.2) * i = Z
    omega
  rw [e2]; exact d
theorem bet_szb {a b : Pt} {i n : Int} (ha : PtOk a) (hb : PtOk b) (sa : Sz 100 a) (sb : Sz 100 b) (hi : 0 ≤ i) (hi2 : i < 2 ^ 20) (hn : 0 < n) (hn2 : n < 2 ^ 20) : Sz 300 (betP a b i n) := by
  unfold betP
  have b1 : (a.1 * b.2).natAbs < 2 ^ 200 := abs_mul_lt sa.1 sb.2
  have b2 : (b.1 * a.2).natAbs < 2 ^ 200 := abs_mul_lt sb.1 sa.2
  have b3 : (a.2 * b.2).natAbs < 2 ^ 200 := abs_mul_lt sa.2 sb.2
  have bi : i.natAbs < 2 ^ 20 := by omega
  have bn : n.natAbs < 2 ^ 20 := by omega
  have c1 : (a.1 * b.2 * n).natAbs < 2 ^ 220 := abs_mul_lt b1 bn
  have c2 : ((b.1 * a.2 - a.1 * b.2) * i).natAbs < 2 ^ 221 := abs_mul_lt (abs_sub_lt b2 b1) bi
  have c3 : (a.2 * b.2 * n).natAbs < 2 ^ 220 := abs_mul_lt b3 bn
  exact norm_sz (Int.mul_pos (Int.mul_pos ha.pos hb.pos) hn) (abs_mono (abs_add_lt (abs_mono c1 (by omega)) c2) (by omega)) (abs_mono c3 (by omega))
theorem shift_szb {x : Pt} {k : Int} (h : Sz 100 x) (h1 : -1000000 ≤ k) (h2 : k ≤ 1000000) : Sz 300 (x.1 + k * x.2, x.2) := by
  have bk : k.natAbs < 2 ^ 20 := by omega
  have c1 : (k * x.2).natAbs < 2 ^ 120 := abs_mul_lt bk h.2
  exact ⟨abs_mono (abs_add_lt (abs_mono h.1 (by omega)) c1) (by omega), abs_mono h.2 (by omega)⟩
theorem shift_lt {x : Pt} (h : 0 < x.2) {k : Int} (hk : 0 < k) : ltP x (x.1 + k * x.2, x.2) := by
  show x.1 * x.2 < (x.1 + k * x.2) * x.2
  have := Int.mul_pos hk h
  exact Int.mul_lt_mul_of_pos_right (by omega) h
theorem shift_gt {x : Pt} (h : 0 < x.2) {k : Int} (hk : k < 0) : ltP (x.1 + k * x.2, x.2) x := by
  show (x.1 + k * x.2) * x.2 < x.1 * x.2
  have := Int.mul_pos (show 0 < -k by omega) h
  rw [Int.neg_mul] at this
  exact Int.mul_lt_mul_of_pos_right (by omega) h
theorem gap_spread {l : List Pt} {gap n i : Nat} (hl : PtsOk 100 l) (hg : gap ≤ l.length) (hn : n < 1000) (hi : i < n) :
    PtOk (spreadI l gap n i) ∧ Sz 300 (spreadI l gap n i) ∧ gapV l (spreadI l gap n i) = .int (gap : Nat) ∧ gapD l (spreadI l gap n i) = .int (gap : Nat) := by
  by_cases l0 : l.length = 0
  · have g0 : gap = 0 := by omega
    subst g0
    have e : spreadI l 0 n i = ((i : Int), 1) := by unfold spreadI; rw [if_pos l0]
    rw [e]
    refine ⟨⟨by show (0 : Int) < 1; decide, by show Int.gcd _ 1 = 1; exact Int.gcd_one⟩, ⟨?_, ?_⟩, gap_at (Nat.zero_le _) (fun j x h => by omega) fun j x _ h => ?_⟩
    · exact abs_mono (m := 20) (by show (i : Int).natAbs < _; omega) (by omega)
    · exact abs_mono (m := 20) (by show (1 : Int).natAbs < _; decide) (by omega)
    · have := (List.getElem?_eq_some_iff.mp h).1; omega
  by_cases g0 : gap = 0
  · subst g0
    have h0 := atP_some (l := l) (i := 0) (by omega)
    have m0 := List.mem_of_getElem? h0
    have o0 := hl.ok _ m0
    have e : spreadI l 0 n i = ((atP l 0).1 + ((i : Int) - n) * (atP l 0).2, (atP l 0).2) := by unfold spreadI; rw [if_neg l0, if_pos rfl]
    rw [e]
    have ox := shift_ok o0 ((i : Int) - n)
    have lt := shift_gt o0.pos (k := (i : Int) - n) (by omega)
    refine ⟨ox, shift_szb (hl.sz _ m0) (by omega) (by omega), gap_at (Nat.zero_le _) (fun j x h => by omega) fun j x _ h => ?_⟩
    by_cases ej : j = 0
    · subst ej; rw [h0] at h; cases h; exact lt
    · exact lt_trans ox.pos o0.pos (hl.ok _ (List.mem_of_getElem? h)).pos lt (asc_get hl.asc (by omega) h0 h)
  by_cases g1 : gap = l.length
  · subst g1
    have h0 := atP_some (l := l) (i := l.length - 1) (by omega)
    have m0 := List.mem_of_getElem? h0
    have o0 := hl.ok _ m0
    have e : spreadI l l.length n i = ((atP l (l.length - 1)).1 + ((i : Int) + 1) * (atP l (l.length - 1)).2, (atP l (l.length - 1)).2) := by
      unfold spreadI; rw [if_neg l0, if_neg g0, if_pos rfl]
    rw [e]
    have ox := shift_ok o0 ((i : Int) + 1)
    have lt := shift_lt o0.pos (k := (i : Int) + 1) (by omega)
    refine ⟨ox, shift_szb (hl.sz _ m0) (by omega) (by omega), gap_at (Nat.le_refl _) (fun j x hj h => ?_) fun j x hj h => ?_⟩
    · by_cases ej : j = l.length - 1
      · subst ej; rw [h0] at h; cases h; exact lt
      · exact lt_trans (hl.ok _ (List.mem_of_getElem? h)).pos o0.pos ox.pos (asc_get hl.asc (by omega) h h0) lt
    · have := (List.getElem?_eq_some_iff.mp h).1; omega
  · have ha := atP_some (l := l) (i := gap - 1) (by omega)
    have hb := atP_some (l := l) (i := gap) (by omega)
    have ma := List.mem_of_getElem? ha
    have mb := List.mem_of_getElem? hb
    have oa := hl.ok _ ma
    have ob := hl.ok _ mb
    have ab := asc_get hl.asc (by omega) ha hb
    have e : spreadI l gap n i = betP (atP l (gap - 1)) (atP l gap) ((i : Int) + 1) ((n : Int) + 1) := by unfold spreadI; rw [if_neg l0, if_neg g0, if_neg g1]
    rw [e]
    have lo := norm_lt_lo oa ob ab (i := (i : Int) + 1) (n := (n : Int) + 1) (by omega) (by omega)
    have hi' := norm_lt_hi oa ob ab (i := (i : Int) + 1) (n := (n : Int) + 1) (by omega) (by omega)
    have ox : PtOk (betP (atP l (gap - 1)) (atP l gap) ((i : Int) + 1) ((n : Int) + 1)) := norm_ok (Int.mul_pos (Int.mul_pos oa.pos ob.pos) (by omega))
    refine ⟨ox, bet_szb oa ob (hl.sz _ ma) (hl.sz _ mb) (by omega) (by omega) (by omega) (by omega), gap_at hg (fun j x hj h => ?_) fun j x hj h => ?_⟩
    · by_cases ej : j = gap - 1
      · subst ej; rw [ha] at h; cases h; exact lo
      · exact lt_trans (hl.ok _ (List.mem_of_getElem? h)).pos oa.pos ox.pos (asc_get hl.asc (by omega) h ha) lo
    · by_cases ej : j = gap
      · subst ej; rw [hb] at h; cases h; exact hi'
      · exact lt_trans ox.pos ob.pos (hl.ok _ (List.mem_of_getElem? h)).pos hi' (asc_get hl.asc (by omega) hb h)
theorem spread_mem {l : List Pt} {gap n : Nat} {x : Pt} (h : x ∈ spreadP l gap n) : ∃ i, i < n ∧ x = spreadI l gap n i := by
  unfold spreadP at h
  obtain ⟨i, hi, rfl⟩ := List.mem_map.mp h
  exact ⟨i, List.mem_range.mp hi, rfl⟩
theorem PtsOk.mono {a b : Nat} {l : List Pt} (h : PtsOk a l) (k : a ≤ b) : PtsOk b l := ⟨h.ok, fun x m => (h.sz x m).mono k, h.asc⟩
theorem spread_small {l : List Pt} {gap n : Nat} (hl : PtsOk 100 l) (hg : gap ≤ l.length) (hn : n < 1000) : ∀ d ∈ (spreadP l gap n).map ptD, small1 d = true := fun d h => by
  obtain ⟨x, hx, rfl⟩ := List.mem_map.mp h
  obtain ⟨i, hi, rfl⟩ := spread_mem hx
  exact pt_small (gap_spread hl hg hn hi).2.1
/-! ### the four near points -/
def near4 (q : Int) : List Pt := [(1, 10 * q + 1), (1, 10 * q - 1), (1, q + 1), (1, q)]
theorem near_ok {q : Int} (h1 : 1 < q) (h2 : q < 2 ^ 90) : PtsOk 100 (near4 q) := by
  refine ⟨fun x h => ?_, fun x h => ?_, ?_⟩
  · simp only [near4, List.mem_cons, List.not_mem_nil, or_false] at h
    have g : ∀ z : Int, 0 < z → PtOk (1, z) := fun z hz => ⟨hz, Int.one_gcd⟩
    rcases h with rfl | rfl | rfl | rfl
    · exact g _ (by omega)
    · exact g _ (by omega)
    · exact g _ (by omega)
    · exact g _ (by omega)
  · simp only [near4, List.mem_cons, List.not_mem_nil, or_false] at h
    have g : ∀ z : Int, 0 < z → z < 2 ^ 95 → Sz 100 (1, z) := fun z hz hz2 => ⟨abs_mono (m := 20) (by show (1 : Int).natAbs < _; decide) (by omega), abs_mono (m := 95) (by show z.natAbs < _; omega) (by omega)⟩
    rcases h with rfl | rfl | rfl | rfl
    · exact g _ (by omega) (by omega)
    · exact g _ (by omega) (by omega)
    · exact g _ (by omega) (by omega)
    · exact g _ (by omega) (by omega)
  · unfold Asc near4
    simp only [List.pairwise_cons, List.mem_cons, List.not_mem_nil, or_false, forall_eq_or_imp, forall_eq, ltP, Int.one_mul]
    refine ⟨⟨by omega, by omega, by omega⟩, ⟨by omega, by omega⟩, by omega, fun _ h => h.elim, List.Pairwise.nil⟩
end G
set_option Elab.async false
set_option linter.all false
set_option maxRecDepth 100000
set_option exponentiation.threshold 10000
namespace G
open PySem L2
section
variable {P : Program} {w : World} {K : PySem.W.Frag} {mg : Str → Option Value} {base : Heap}
def sp__law_near_right (K : PySem.W.Frag) : Sp := fun vs H Q _ => ∃ (d c : Addr), vs = [.ref d] ∧ SrcAt H d c ∧ d ≠ c ∧
  ∀ (H' : Hp), Kp (Mdc d c) H H' → SrcAt H' d c → Q (.bl true) H'
def NearI (d p : Addr) (q : Int) (H : Hp) (i : Nat) (σ : L2.St) (H' : Hp) : Prop :=
  ∃ v3 v4 v5, σ = [some (.ref d), some (.int q), some (.ref p), v3, v4, v5] ∧ Kp M0 H H'
theorem ok__law_near_right (W : Ds K mg) : FnG P w K mg base 5 W.f__law_near_right W.fd__law_near_right P__law_near_right (sp__law_near_right K) := by
  refine fnG_ok W.D__law_near_right.F sc__law_near_right (fun vs H Q E h => ?len) (fun cdv A outer s H vs Q E nr hr h => ?body)
  case len =>
    obtain ⟨d, c, rfl, _⟩ := h
    rfl
  case body =>
    obtain ⟨d, c, rfl, hS, ndc, k⟩ := h
    have nd := sc__law_near_right.nd
    have hu := hu_of hr
    have hu64 := hr.units
    have hu65 := hu65_of hr
    refine ⟨_, (pss_cons (ps_set (i := 1) nd rfl (by first | exact Or.inl rfl | exact Or.inr rfl) (pe_op op_add (pe_op op_pow pe_int pe_int) (pe_call (ok__law_pick W) (hr.mono (by first | decide | omega)) rfl W.D__law_pick.g W.D__law_pick.F.kp W.D__law_pick.b .nil pass0 (pa_cons (pv 0) (pa_cons (pe_op op_pow pe_int pe_int) pa_nil)))))
  (pss_cons (ps_set (i := 2) nd rfl (by first | exact Or.inl rfl | exact Or.inr rfl) (pe_lst (pa_cons (pe_tup (pa_cons pe_int (pa_cons (pe_op op_add (pe_op op_mulK pe_int (pv 1)) pe_int) pa_nil))) (pa_cons (pe_tup (pa_cons pe_int (pa_cons (pe_op op_sub (pe_op op_mulK pe_int (pv 1)) pe_int) pa_nil))) (pa_cons (pe_tup (pa_cons pe_int (pa_cons (pe_op op_add (pv 1) pe_int) pa_nil))) (pa_cons (pe_tup (pa_cons pe_int (pa_cons (pv 1) pa_nil))) pa_nil))))))
  (pss_cons (ps_for PassesOwn.never rfl (i_enum K (pi_enum (by rfl) W.T.b_enumerate (pa_cons (pv 2) pa_nil))) (g_tup K (pg_tup (n := 2) rfl (pgs_cons (pg_name (i := 3) nd rfl (by first | exact Or.inl rfl | exact Or.inr rfl)) (pgs_cons (pg_name (i := 4) nd rfl (by first | exact Or.inl rfl | exact Or.inr rfl)) pgs_nil))))
     (pss_cons (ps_set (i := 5) nd rfl (by first | exact Or.inl rfl | exact Or.inr rfl) (pe_callTy (c_tuple K) (by rfl) W.T.b_tuple (by decide +kernel) (pa_cons (pe_op op_cat (pe_slice (k_slL K) (pv 2) po_none (po_some (pv 3))) (pe_slice (k_slL K) (pv 2) (po_some (pe_op op_add (pv 3) pe_int)) po_none)) pa_nil)))
      (pss_one (ps_if (PW.pt (pw_or (pt_cmpR (k_neD K hu64) (pe_call (ok_gap_of W) (hr.mono (by first | decide | omega)) rfl W.D_gap_of.g W.D_gap_of.F.kp W.D_gap_of.b .nil pass0 (pa_cons (pv 5) (pa_cons (pv 4) pa_nil))) (pv 3) (nomark _)) (pw_or1 (pt_cmpR op_notN (pe_call (ok_gap_of W) (hr.mono (by first | decide | omega)) rfl W.D_gap_of.g W.D_gap_of.F.kp W.D_gap_of.b .nil pass0 (pa_cons (pe_callTy (c_tuple K) (by rfl) W.T.b_tuple (by decide +kernel) (pa_cons (pv 2) pa_nil)) (pa_cons (pv 4) pa_nil))) pe_non (nomark _)))))
         (pss_one (ps_ret pe_bl))
         pss_nil))))
  (pss_one (ps_ret (pe_cmpR op_eq (pe_callB (c_repr K hu65 nr) (by rfl) W.T.b_repr (by decide +kernel) (pa_cons (pe_call (ok_spread W) (hr.mono (by first | decide | omega)) rfl W.D_spread.g W.D_spread.F.kp W.D_spread.b .nil pass0 (pa_cons (pe_callTy (c_tuple K) (by rfl) W.T.b_tuple (by decide +kernel) (pa_cons (pv 2) pa_nil)) (pa_cons pe_int (pa_cons pe_int pa_nil)))) pa_nil)) (pe_callB (c_repr K hu65 nr) (by rfl) W.T.b_repr (by decide +kernel) (pa_cons (pe_call (ok__law_spread W) (hr.mono (by first | decide | omega)) rfl W.D__law_spread.g W.D__law_spread.F.kp W.D__law_spread.b .nil pass0 (pa_cons (pe_callTy (c_tuple K) (by rfl) W.T.b_tuple (by decide +kernel) (pa_cons (pv 2) pa_nil)) (pa_cons pe_int (pa_cons pe_int pa_nil)))) pa_nil)) (nomark _))))))), ?_⟩
    simp only [tSeq, tIfS, tNext, tRet, tRetN, tAsg, tDrop, tPar, tCons, tNil, tCB, tVar, tC, tOp, rI, rI0, rU, tTest, tB, tTup, tLst, gName, tIf, tAnd, tOr, tNot, tAndV, tOrV, tNotV, tUn, tCall, tChain, tSl, tNoPart, tPart, tBM, tBM0, tDGet, sDPut, tAugS, ipI, rIxT, rIxL, rMulK, rLenK, rLstK, tTruK, gTup, gCons, gNil, rEq, rNe, scal, tNever, rMulK, rGcd, L2.start, List.map, List.length, List.replicate, List.cons_append, List.nil_append, List.append_nil, List.set, List.set_cons_zero, List.set_cons_succ, List.getElem?_cons_succ, List.getElem?_cons_zero, Option.some.injEq, List.cons.injEq, V.int.injEq, V.str.injEq, V.bl.injEq, V.ref.injEq, and_true, true_and, exists_eq_left, exists_eq_left', exists_eq_right, exists_eq_right', exists_eq, exists_and_left, exists_and_right, and_assoc, exists_false, false_and, and_false, or_false, false_or, reduceCtorEq, Nat.reduceAdd, Nat.reduceSub, List.append_assoc, eq_self, if_true, if_false, Bool.false_eq_true, decide_eq_true_eq, List.length_cons, List.length_nil]
    refine ⟨⟨by decide, by decide, by decide⟩, ⟨by decide, by decide, by decide⟩, ?_⟩
    simp only [show (10 : Int) ^ Int.toNat 20 = 100000000000000000000 from rfl, show (10 : Int) ^ Int.toNat 6 = 1000000 from rfl]
    refine ⟨d, c, 1000000, rfl, hS, ndc, abs_mono (m := 30) (by decide) (by omega), fun r H1 r0 r1 k1 hS1 => ⟨r, rfl, ?_⟩⟩
    have q0 : 1 < 100000000000000000000 + r := by omega
    have q1 : 100000000000000000000 + r < 2 ^ 90 := by omega
    generalize hq : 100000000000000000000 + r = q at *
    refine ⟨mulOk_l (by omega) (by omega), by decide, fun p0 h0 => ⟨mulOk_l (by omega) (by omega), by decide, fun p1 h1 => ⟨by decide, fun p2 h2 => ⟨by decide, fun p3 h3 => ⟨by decide, fun p h4 => ?_⟩⟩⟩⟩⟩
    have nk := near_ok q0 q1
    have g0 := Kp.new (M := M0) (o := .tup [.int 1, .int (10 * q + 1)]) h0
    have g1 := Kp.new (M := M0) (o := .tup [.int 1, .int (10 * q - 1)]) h1
    have g2 := Kp.new (M := M0) (o := .tup [.int 1, .int (q + 1)]) h2
    have g3 := Kp.new (M := M0) (o := .tup [.int 1, .int q]) h3
    have g4 := Kp.new (M := M0) (o := .lst [.ref p0, .ref p1, .ref p2, .ref p3]) h4
    have at4 : DpAll K _ [.ref p0, .ref p1, .ref p2, .ref p3] ((near4 q).map ptD) :=
      .cons (dp_tk (Tk.of0 (((g1.trans g2).trans g3).trans g4)) _ _ rfl (pt_mk (K := K) (p := 1) (q := 10 * q + 1) (sqT_mk upd_same)))
        (.cons (dp_tk (Tk.of0 ((g2.trans g3).trans g4)) _ _ rfl (pt_mk (K := K) (p := 1) (q := 10 * q - 1) (sqT_mk upd_same)))
        (.cons (dp_tk (Tk.of0 (g3.trans g4)) _ _ rfl (pt_mk (K := K) (p := 1) (q := q + 1) (sqT_mk upd_same)))
        (.cons (dp_tk (Tk.of0 g4) _ _ rfl (pt_mk (K := K) (p := 1) (q := q) (sqT_mk upd_same))) .nil)))
    have k5 := k1.trans (Kp.of0 ((((g0.trans g1).trans g2).trans g3).trans g4))
    have hS5 := hS1.keep ((((g0.trans g1).trans g2).trans g3).trans g4)
    clear g0 g1 g2 g3 g4
    generalize e5 : (upd _ p (HO.lst [.ref p0, .ref p1, .ref p2, .ref p3])) = H5 at *
    have hp : H5 p = some (HO.lst [.ref p0, .ref p1, .ref p2, .ref p3]) := by rw [← e5]; exact upd_same
    clear e5
    generalize hws : [V.ref p0, V.ref p1, V.ref p2, V.ref p3] = ws at *
    have wl : ws.length = 4 := by rw [← hws]; rfl
    have nl4 : (near4 q).length = 4 := rfl
    clear h0 h1 h2 h3 h4 hws hS1 k1
    generalize near4 q = l at *
    refine ⟨_, rfl, p, ws, rfl, sqL_mk hp, ?_⟩
    refine for_enumL (xs := ws) (NearI d p q H5) ⟨none, none, none, rfl, Kp.refl H5⟩ ?_ ?_ ?_
    · rintro i σ H6 hi ⟨v3, v4, v5, rfl, k6⟩
      exact SqL.keep (sqL_mk hp) k6
    · rintro i u T σ H6 hu1 ⟨v3, v4, v5, rfl, k6⟩ hT
      have il : i < l.length := by have := (List.getElem?_eq_some_iff.mp hu1).1; omega
      have hi := atP_some il
      obtain ⟨v', e1, dy⟩ := pts_item at4 il
      rw [hu1] at e1
      obtain rfl := Option.some.inj e1
      have mem := List.mem_of_getElem? hi
      have oy := nk.ok _ mem
      have sy := nk.sz _ mem
      generalize atP l i = y at *
      have kT : Kp M0 H5 (upd H6 T (HO.tup [.int (i : Nat), u])) := k6.at (none0 k6 hT)
      simp only [tSeq, tIfS, tNext, tRet, tRetN, tAsg, tDrop, tPar, tCons, tNil, tCB, tVar, tC, tOp, rI, rI0, rU, tTest, tB, tTup, tLst, gName, tIf, tAnd, tOr, tNot, tAndV, tOrV, tNotV, tUn, tCall, tChain, tSl, tNoPart, tPart, tBM, tBM0, tDGet, sDPut, tAugS, ipI, rIxT, rIxL, rMulK, rLenK, rLstK, tTruK, gTup, gCons, gNil, rEq, rNe, scal, tNever, rMulK, rGcd, L2.start, List.map, List.length, List.replicate, List.cons_append, List.nil_append, List.append_nil, List.set, List.set_cons_zero, List.set_cons_succ, List.getElem?_cons_succ, List.getElem?_cons_zero, Option.some.injEq, List.cons.injEq, V.int.injEq, V.str.injEq, V.bl.injEq, V.ref.injEq, and_true, true_and, exists_eq_left, exists_eq_left', exists_eq_right, exists_eq_right', exists_eq, exists_and_left, exists_and_right, and_assoc, exists_false, false_and, and_false, or_false, false_or, reduceCtorEq, Nat.reduceAdd, Nat.reduceSub, List.append_assoc, eq_self, if_true, if_false, Bool.false_eq_true, decide_eq_true_eq, List.length_cons, List.length_nil]
      refine ⟨_, sqT_mk upd_same, rfl, _, _, rfl, _, _, rfl, rfl, ?_⟩
      have kB : Kp M0 H5 _ := kT
      refine ⟨_, rfl, ?_⟩
      refine slL (l := 0) (h := i) (SqL.keep (sqL_mk hp) kT) rfl (by rw [HT.sIx_nat, wl]; omega) fun a1 ha1 => ?_
      refine ⟨_, rfl, ?_⟩
      have hA := Kp.new (M := M0) (o := .lst ((ws.drop 0).take (i - 0))) ha1
      rw [show (i : Int) + 1 = ((i + 1 : Nat) : Int) by omega]
      refine slL (l := i + 1) (h := ws.length) (SqL.keep (sqL_mk hp) (kT.trans hA)) (by rw [HT.sIx_nat, wl]; omega) rfl fun a2 ha2 => ?_
      have n12 : a1 ≠ a2 := ne_of_none upd_same ha2
      have hB := Kp.new (M := M0) (o := .lst ((ws.drop (i + 1)).take (ws.length - (i + 1)))) ha2
      refine ⟨a1, a2, (ws.drop 0).take (i - 0), (ws.drop (i + 1)).take (ws.length - (i + 1)), rfl, rfl, (by rw [upd_ne n12]; exact upd_same), upd_same, ?_, fun a3 ha3 => ?_⟩
      · rw [sizeLine_eq, List.length_take, List.length_take, List.length_drop, List.length_drop, wl]; omega
      have hC := Kp.new (M := M0) (o := .lst ((ws.drop 0).take (i - 0) ++ (ws.drop (i + 1)).take (ws.length - (i + 1)))) ha3
      refine ⟨a3, _, rfl, Or.inl ⟨sqL_mk upd_same, fun a4 ha4 => ?_⟩⟩
      have hD := Kp.new (M := M0) (o := .tup ((ws.drop 0).take (i - 0) ++ (ws.drop (i + 1)).take (ws.length - (i + 1)))) ha4
      have kD := ((((kT.trans hA).trans hB).trans hC).trans hD)
      have eo : ((ws.drop 0).take (i - 0) ++ (ws.drop (i + 1)).take (ws.length - (i + 1))) = ws.take i ++ ws.drop (i + 1) := by
        rw [List.drop_zero, Nat.sub_zero, List.take_of_length_le (i := ws.length - (i + 1)) (l := ws.drop (i + 1)) (by rw [List.length_drop]; omega)]
      have dO : ∀ H', Kp M0 H5 H' → DpAll K H' (ws.take i ++ ws.drop (i + 1)) ((l.take i ++ l.drop (i + 1)).map ptD) := fun H' kD => by
        rw [List.map_append, List.map_take, List.map_drop]
        exact dps_app (dps_take i (dps_tk (Tk.of0 kD) _ _ (ptDs_tup _) at4)) (dps_drop (i + 1) (dps_tk (Tk.of0 kD) _ _ (ptDs_tup _) at4))
      have ok4 := (others_ok (i := i) nk)
      refine ⟨a4, u, _, l.take i ++ l.drop (i + 1), y, rfl, Or.inr (sqT_mk (by rw [eo]; exact upd_same)), dO _ kD, dp_tk (Tk.of0 kD) _ _ rfl dy, ok4.mono (by omega), oy, sy.mono (by omega), by rw [List.length_append, List.length_take, List.length_drop]; omega, ?_⟩
      rw [gap_others nk hi]
      refine ⟨_, _, .int _, .int _, rfl, rfl, ?_⟩
      refine ⟨false, by simp [PyData.eqv], ?_⟩
      rw [if_neg (by simp)]
      refine ⟨p, ws, rfl, Or.inl ⟨SqL.keep (sqL_mk hp) kD, fun a5 ha5 => ?_⟩⟩
      have hE := Kp.new (M := M0) (o := .tup ws) ha5
      refine ⟨a5, u, ws, l, y, rfl, Or.inr (sqT_mk upd_same), dps_tk (Tk.of0 (kD.trans hE)) _ _ (ptDs_tup _) at4, dp_tk (Tk.of0 (kD.trans hE)) _ _ rfl dy, nk.mono (by omega), oy, sy.mono (by omega), by omega, ?_⟩
      rw [(gap_here nk hi).1]
      show if (!decide (V.non = V.non)) = true then _ else _
      rw [if_neg (by simp)]
      exact ⟨_, _, _, rfl, kD.trans hE⟩
    · rintro σ H6 ⟨v3, v4, v5, rfl, k6⟩
      simp only [tSeq, tIfS, tNext, tRet, tRetN, tAsg, tDrop, tPar, tCons, tNil, tCB, tVar, tC, tOp, rI, rI0, rU, tTest, tB, tTup, tLst, gName, tIf, tAnd, tOr, tNot, tAndV, tOrV, tNotV, tUn, tCall, tChain, tSl, tNoPart, tPart, tBM, tBM0, tDGet, sDPut, tAugS, ipI, rIxT, rIxL, rMulK, rLenK, rLstK, tTruK, gTup, gCons, gNil, rEq, rNe, scal, tNever, rMulK, rGcd, L2.start, List.map, List.length, List.replicate, List.cons_append, List.nil_append, List.append_nil, List.set, List.set_cons_zero, List.set_cons_succ, List.getElem?_cons_succ, List.getElem?_cons_zero, Option.some.injEq, List.cons.injEq, V.int.injEq, V.str.injEq, V.bl.injEq, V.ref.injEq, and_true, true_and, exists_eq_left, exists_eq_left', exists_eq_right, exists_eq_right', exists_eq, exists_and_left, exists_and_right, and_assoc, exists_false, false_and, and_false, or_false, false_or, reduceCtorEq, Nat.reduceAdd, Nat.reduceSub, List.append_assoc, eq_self, if_true, if_false, Bool.false_eq_true, decide_eq_true_eq, List.length_cons, List.length_nil]
      have hp6 := k6 p _ hp (fun z => z)
      refine ⟨p, ws, rfl, Or.inl ⟨sqL_mk hp6, fun t ht => ?_⟩⟩
      have kt := k6.trans (Kp.new (o := .tup ws) ht)
      refine ⟨t, ws, l, 2, 1, rfl, sqT_mk upd_same, dps_tk (Tk.of0 kt) _ _ (ptDs_tup _) at4, nk.mono (by omega), by omega, by omega, by omega, fun D H7 us hD k7 hD7 hus => ?_⟩
      have sm : ∀ dd ∈ (spreadP l 2 1).map ptD, small1 dd = true := spread_small nk (by omega) (by omega)
      have so := list_ok sm (by simp [spreadP])
      refine ⟨_, _, rfl, .lst (sqL_mk hD7) hus, so.show', so.lay, so.depth, so.size, ?_⟩
      have hp7 := (kt.trans k7) p _ hp (fun z => z)
      refine ⟨p, ws, rfl, Or.inl ⟨sqL_mk hp7, fun t2 ht2 => ?_⟩⟩
      have kt2 := (kt.trans k7).trans (Kp.new (o := .tup ws) ht2)
      refine ⟨t2, ws, l, 2, 1, rfl, sqT_mk upd_same, dps_tk (Tk.of0 kt2) _ _ (ptDs_tup _) at4, nk.mono (by omega), by omega, by omega, by omega, fun D2 H8 us2 hD2 k8 hD8 hus2 => ?_⟩
      refine ⟨_, _, rfl, .lst (sqL_mk hD8) hus2, so.show', so.lay, so.depth, so.size, rfl, ?_⟩
      rw [decide_eq_true rfl]
      have ke := kt2.trans k8
      exact k H8 (k5.trans (Kp.of0 ke)) (hS5.keep ke)
end
end G
set_option Elab.async false
set_option linter.all false
set_option maxRecDepth 100000
set_option exponentiation.threshold 10000
namespace G
open PySem L2
section
variable {P : Program} {w : World} {K : PySem.W.Frag} {mg : Str → Option Value} {base : Heap}
def sp_law (K : PySem.W.Frag) : Sp := fun vs H Q _ => ∃ (a : Addr) (ns : List Int), vs = [.ref a] ∧ SqL K H a (ns.map V.int) ∧ ns.length ≤ 63 ∧ ∀ H', Q (.bl true) H'
structure PtsAt (K : PySem.W.Frag) (H : Hp) (t : Addr) (l : List Pt) : Prop where
  at' : ∃ ws, SqT K H t ws ∧ DpAll K H ws (l.map ptD)
  ok : PtsOk 100 l
  len : l.length < 100
theorem PtsAt.tk {K : PySem.W.Frag} {H H' : Hp} {t : Addr} {l : List Pt} (k : Tk H H') (h : PtsAt K H t l) : PtsAt K H' t l := by
  obtain ⟨ws, h1, h2⟩ := h.at'
  exact ⟨⟨ws, sqT_tk k h1, dps_tk k _ _ (ptDs_tup l) h2⟩, h.ok, h.len⟩
def LI0 (a d c : Addr) (σ : L2.St) (H' : Hp) : Prop :=
  ∃ v2 v3 v4 v5 v6 v7, σ = [some (.ref a), some (.ref d), v2, v3, v4, v5, v6, v7] ∧ SrcAt H' d c
def LI1 (K : PySem.W.Frag) (a d c t : Addr) (l : List Pt) (σ : L2.St) (H' : Hp) : Prop :=
  ∃ v2 v4 v5 v6 v7, σ = [some (.ref a), some (.ref d), v2, some (.ref t), v4, v5, v6, v7] ∧ SrcAt H' d c ∧ PtsAt K H' t l
def LI1e (K : PySem.W.Frag) (a d c : Addr) (σ : L2.St) (H' : Hp) : Prop := ∃ t l, LI1 K a d c t l σ H'
def LI3 (K : PySem.W.Frag) (a d c t : Addr) (l : List Pt) (gap n : Nat) (σ : L2.St) (H' : Hp) : Prop :=
  ∃ v2 v6 v7, σ = [some (.ref a), some (.ref d), v2, some (.ref t), some (.int gap), some (.int n), v6, v7] ∧ SrcAt H' d c ∧ PtsAt K H' t l
def LI3e (K : PySem.W.Frag) (a d c t : Addr) (l : List Pt) (gap : Nat) (σ : L2.St) (H' : Hp) : Prop := ∃ n : Nat, n < 7 ∧ LI3 K a d c t l gap n σ H'
def LI4 (K : PySem.W.Frag) (a d c t D : Addr) (l : List Pt) (gap n : Nat) (σ : L2.St) (H' : Hp) : Prop :=
  ∃ v2 v7 us, σ = [some (.ref a), some (.ref d), v2, some (.ref t), some (.int gap), some (.int n), some (.ref D), v7] ∧ SrcAt H' d c ∧ PtsAt K H' t l ∧ H' D = some (.lst us) ∧ DpAll K H' us ((spreadP l gap n).map ptD)
def LI4e (K : PySem.W.Frag) (a d c t : Addr) (l : List Pt) (gap n : Nat) (σ : L2.St) (H' : Hp) : Prop := ∃ D, d ≠ D ∧ c ≠ D ∧ LI4 K a d c t D l gap n σ H'
def LIG (K : PySem.W.Frag) (a d c t : Addr) (l : List Pt) (H13 : Hp) (_ : Nat) (σ : L2.St) (H' : Hp) : Prop := LI1 K a d c t l σ H' ∧ Kp M0 H13 H'
def ex4 : List Pt := [(0, 1), (-30, 1), (30, 1), (1, 60)]
theorem ex4_ok {x : Pt} (h : x ∈ ex4) : PtOk x ∧ Sz 100 x := by
  have g : ∀ x : Pt, (0 < x.2 ∧ Int.gcd x.1 x.2 = 1 ∧ x.1.natAbs < 2 ^ 10 ∧ x.2.natAbs < 2 ^ 10) → PtOk x ∧ Sz 100 x := fun x ⟨h1, h2, h3, h4⟩ => ⟨⟨h1, h2⟩, abs_mono h3 (by omega), abs_mono h4 (by omega)⟩
  simp only [ex4, List.mem_cons, List.not_mem_nil, or_false] at h
  rcases h with rfl | rfl | rfl | rfl
  · exact g _ (by decide)
  · exact g _ (by decide)
  · exact g _ (by decide)
  · exact g _ (by decide)
theorem ok_law (W : Ds K mg) : FnG P w K mg base 6 W.f_law W.fd_law P_law (sp_law K) := by
  refine fnG_ok W.D_law.F sc_law (fun vs H Q E h => ?len) (fun cdv A outer s H vs Q E nr hr h => ?body)
  case len =>
    obtain ⟨a, ns, rfl, _⟩ := h
    rfl
  case body =>
    obtain ⟨a, ns, rfl, hS, hn, k⟩ := h
    have nd := sc_law.nd
    have hu := hu_of hr
    have hu64 := hr.units
    have hu65 := hu65_of hr
    refine ⟨_, (pss_cons (ps_set (i := 1) nd rfl (by first | exact Or.inl rfl | exact Or.inr rfl) (pe_call (ok__law_open_cells W) (hr.mono (by first | decide | omega)) rfl W.D__law_open_cells.g W.D__law_open_cells.F.kp W.D__law_open_cells.b .nil pass0 (pa_cons (pv 0) pa_nil)))
  (pss_cons (ps_if (pt_not (pt_val (peG_call (ok__law_near_right W) nr (hr.mono (by first | decide | omega)) rfl W.D__law_near_right.g W.D__law_near_right.F.kp W.D__law_near_right.b (pa_cons (pv 1) pa_nil))))
     (pss_one (ps_ret pe_bl))
     pss_nil)
  (pss_cons (ps_for PassesOwn.never rfl (pi_range1 rfl W.T.b_range (pa_cons pe_int pa_nil)) (pg_name (i := 2) nd rfl (by first | exact Or.inl rfl | exact Or.inr rfl))
     (Evl.pss_cut (ps_set (i := 3) nd rfl (by first | exact Or.inl rfl | exact Or.inr rfl) (pe_callTy (c_tuple K) (by rfl) W.T.b_tuple (by decide +kernel) (pa_cons (pe_call (ok__law_draw_points W) (hr.mono (by first | decide | omega)) rfl W.D__law_draw_points.g W.D__law_draw_points.F.kp W.D__law_draw_points.b .nil pass0 (pa_cons (pv 1) (pa_cons (pe_call (ok__law_pick W) (hr.mono (by first | decide | omega)) rfl W.D__law_pick.g W.D__law_pick.F.kp W.D__law_pick.b .nil pass0 (pa_cons (pv 1) (pa_cons pe_int pa_nil))) pa_nil))) pa_nil)))
      (Evl.pss_cut (ps_for PassesOwn.never rfl (pi_range1 rfl W.T.b_range (pa_cons (pe_op op_add (pe_callB (c_len K) (by rfl) W.T.b_len (by decide +kernel) (pa_cons (pv 3) pa_nil)) pe_int) pa_nil)) (pg_name (i := 4) nd rfl (by first | exact Or.inl rfl | exact Or.inr rfl))
         (Evl.pss_cut (ps_set (i := 5) nd rfl (by first | exact Or.inl rfl | exact Or.inr rfl) (pe_call (ok__law_pick W) (hr.mono (by first | decide | omega)) rfl W.D__law_pick.g W.D__law_pick.F.kp W.D__law_pick.b .nil pass0 (pa_cons (pv 1) (pa_cons pe_int pa_nil))))
          (Evl.pss_cut (ps_set (i := 6) nd rfl (by first | exact Or.inl rfl | exact Or.inr rfl) (pe_call (ok_spread W) (hr.mono (by first | decide | omega)) rfl W.D_spread.g W.D_spread.F.kp W.D_spread.b .nil pass0 (pa_cons (pv 3) (pa_cons (pv 4) (pa_cons (pv 5) pa_nil)))))
          (Evl.pss_cut (ps_if (PW.pt (pw_or (pt_not (pt_val (pe_callB (c_isi K) (by rfl) W.T.b_isinstance (by decide +kernel) (pa_cons (pv 6) (pa_cons (pe_bltn (v := .ty "list") (u := .type "list") (by rfl) W.T.b_list (by decide +kernel) (by rfl)) pa_nil))))) (pw_or (pt_cmpR op_ne (pe_callB (c_repr K hu65 nr) (by rfl) W.T.b_repr (by decide +kernel) (pa_cons (pv 6) pa_nil)) (pe_callB (c_repr K hu65 nr) (by rfl) W.T.b_repr (by decide +kernel) (pa_cons (pe_call (ok__law_spread W) (hr.mono (by first | decide | omega)) rfl W.D__law_spread.g W.D__law_spread.F.kp W.D__law_spread.b .nil pass0 (pa_cons (pv 3) (pa_cons (pv 4) (pa_cons (pv 5) pa_nil)))) pa_nil)) (nomark _)) (pw_or1 (pt_cmpR op_ne (pe_callB (c_len K) (by rfl) W.T.b_len (by decide +kernel) (pa_cons (pv 6) pa_nil)) (pv 5) (nomark _))))))
             (pss_one (ps_ret pe_bl))
             pss_nil)
          (Evl.pss_cut (ps_if (PW.pt (pw_or (pt_not (pt_val (pe_call (ok__law_is_even W) (hr.mono (by first | decide | omega)) rfl W.D__law_is_even.g W.D__law_is_even.F.kp W.D__law_is_even.b .nil pass0 (pa_cons (pv 3) (pa_cons (pv 4) (pa_cons (pv 6) pa_nil)))))) (pw_or1 (pt_cmpR op_ne (pe_callB (c_repr K hu65 nr) (by rfl) W.T.b_repr (by decide +kernel) (pa_cons (pe_lc (own := [("one", 7)]) rfl nd (i_list K (pv 6)) (blkOk_by (N := N_law) (sc := defScope s_law) (by decide +kernel)) (fun _ _ _ _ _ => (pg_name (i := 7) nd rfl (by first | exact Or.inl rfl | exact Or.inr rfl))) (fun _ _ _ _ _ => pts_nil) (fun _ _ _ _ _ => (pe_call (ok_gap_of W) (hr.mono (by first | decide | omega)) rfl W.D_gap_of.g W.D_gap_of.F.kp W.D_gap_of.b .nil pass0 (pa_cons (pv 3) (pa_cons (pv 7) pa_nil))))) pa_nil)) (pe_callB (c_repr K hu65 nr) (by rfl) W.T.b_repr (by decide +kernel) (pa_cons (pe_op op_rep (pe_lst (pa_cons (pv 4) pa_nil)) (pv 5)) pa_nil)) (nomark _)))))
             (pss_one (ps_ret pe_bl))
             pss_nil)
          (Evl.pss_cut (ps_expr (e_bm K (pe_bm PySem.F.plainAttrs_list PySem.F.slot_list_append PySem.F.type_list_append mt_append (pv 6) (pa_cons pe_str pa_nil))))
          (pss_one (ps_if (pt_cmpR (k_neD K hu64) (pe_call (ok_spread W) (hr.mono (by first | decide | omega)) rfl W.D_spread.g W.D_spread.F.kp W.D_spread.b .nil pass0 (pa_cons (pv 3) (pa_cons (pv 4) (pa_cons (pv 5) pa_nil)))) (pe_call (ok__law_spread W) (hr.mono (by first | decide | omega)) rfl W.D__law_spread.g W.D__law_spread.F.kp W.D__law_spread.b .nil pass0 (pa_cons (pv 3) (pa_cons (pv 4) (pa_cons (pv 5) pa_nil)))) (nomark _))
             (pss_one (ps_ret pe_bl))
             pss_nil))))))))
      (Evl.pss_cut (ps_if (pt_cmpR (k_neD K hu64) (pe_lc (own := [("one", 7)]) rfl nd (i_tup K (pv 3)) (blkOk_by (N := N_law) (sc := defScope s_law) (by decide +kernel)) (fun _ _ _ _ _ => (pg_name (i := 7) nd rfl (by first | exact Or.inl rfl | exact Or.inr rfl))) (fun _ _ _ _ _ => pts_nil) (fun _ _ _ _ _ => (pe_call (ok_gap_of W) (hr.mono (by first | decide | omega)) rfl W.D_gap_of.g W.D_gap_of.F.kp W.D_gap_of.b .nil pass0 (pa_cons (pv 3) (pa_cons (pv 7) pa_nil))))) (pe_op op_rep (pe_lst (pa_cons pe_non pa_nil)) (pe_callB (c_len K) (by rfl) W.T.b_len (by decide +kernel) (pa_cons (pv 3) pa_nil))) (nomark _))
         (pss_one (ps_ret pe_bl))
         pss_nil)
      (pss_one (ps_for PassesOwn.never rfl (i_list K (pe_op op_cat (pe_call (ok__law_draw_points W) (hr.mono (by first | decide | omega)) rfl W.D__law_draw_points.g W.D__law_draw_points.F.kp W.D__law_draw_points.b .nil pass0 (pa_cons (pv 1) (pa_cons pe_int pa_nil))) (pe_lst (pa_cons (pe_tup (pa_cons pe_int (pa_cons pe_int pa_nil))) (pa_cons (pe_tup (pa_cons (pe_un un_neg pe_int) (pa_cons pe_int pa_nil))) (pa_cons (pe_tup (pa_cons pe_int (pa_cons pe_int pa_nil))) (pa_cons (pe_tup (pa_cons pe_int (pa_cons pe_int pa_nil))) pa_nil))))))) (pg_name (i := 7) nd rfl (by first | exact Or.inl rfl | exact Or.inr rfl))
         (pss_one (ps_if (pt_cmpR op_ne (pe_callB (c_repr K hu65 nr) (by rfl) W.T.b_repr (by decide +kernel) (pa_cons (pe_call (ok_gap_of W) (hr.mono (by first | decide | omega)) rfl W.D_gap_of.g W.D_gap_of.F.kp W.D_gap_of.b .nil pass0 (pa_cons (pv 3) (pa_cons (pv 7) pa_nil))) pa_nil)) (pe_callB (c_repr K hu65 nr) (by rfl) W.T.b_repr (by decide +kernel) (pa_cons (pe_call (ok__law_gap_due W) (hr.mono (by first | decide | omega)) rfl W.D__law_gap_due.g W.D__law_gap_due.F.kp W.D__law_gap_due.b .nil pass0 (pa_cons (pv 3) (pa_cons (pv 7) pa_nil))) pa_nil)) (nomark _))
             (pss_one (ps_ret pe_bl))
             pss_nil))))))))
  (pss_one (ps_ret pe_bl))))), ?_⟩
    simp only [tSeq, tIfS, tNext, tRet, tRetN, tAsg, tDrop, tPar, tCons, tNil, tCB, tVar, tC, tOp, rI, rI0, rU, tTest, tB, tTup, tLst, gName, tIf, tAnd, tOr, tNot, tAndV, tOrV, tNotV, tUn, tCall, tChain, tSl, tNoPart, tPart, tBM, tBM0, tDGet, sDPut, tAugS, ipI, rIxT, rIxL, rMulK, rLenK, rLstK, tTruK, gTup, gCons, gNil, rEq, rNe, scal, tNever, rMulK, rGcd, L2.start, List.map, List.length, List.replicate, List.cons_append, List.nil_append, List.append_nil, List.set, List.set_cons_zero, List.set_cons_succ, List.getElem?_cons_succ, List.getElem?_cons_zero, Option.some.injEq, List.cons.injEq, V.int.injEq, V.str.injEq, V.bl.injEq, V.ref.injEq, and_true, true_and, exists_eq_left, exists_eq_left', exists_eq_right, exists_eq_right', exists_eq, exists_and_left, exists_and_right, and_assoc, exists_false, false_and, and_false, or_false, false_or, reduceCtorEq, Nat.reduceAdd, Nat.reduceSub, List.append_assoc, eq_self, if_true, if_false, Bool.false_eq_true, decide_eq_true_eq, List.length_cons, List.length_nil]
    refine ⟨a, ns, rfl, hS, hn, fun d c H1 k1 _ _ hS1 ndc => ?_⟩
    refine ⟨d, c, rfl, hS1, ndc, fun H2 k2 hS2 => ?_⟩
    refine ⟨_, rfl, ?_⟩
    rw [if_neg (by simp)]
    refine ⟨_, rfl, by omega, by omega, ?_⟩
    rw [show Int.toNat 3 = 3 from rfl]
    refine for_range (n := 3) (lo := 0) (fun _ => LI0 a d c) ⟨_, _, _, _, _, _, rfl, hS2⟩ ?_ ?_
    · rintro i σ H3 hi ⟨v2, v3, v4, v5, v6, v7, rfl, hS3⟩
      refine ⟨LI1e K a d c, ?_, ?_⟩
      · simp only [tSeq, tIfS, tNext, tRet, tRetN, tAsg, tDrop, tPar, tCons, tNil, tCB, tVar, tC, tOp, rI, rI0, rU, tTest, tB, tTup, tLst, gName, tIf, tAnd, tOr, tNot, tAndV, tOrV, tNotV, tUn, tCall, tChain, tSl, tNoPart, tPart, tBM, tBM0, tDGet, sDPut, tAugS, ipI, rIxT, rIxL, rMulK, rLenK, rLstK, tTruK, gTup, gCons, gNil, rEq, rNe, scal, tNever, rMulK, rGcd, L2.start, List.map, List.length, List.replicate, List.cons_append, List.nil_append, List.append_nil, List.set, List.set_cons_zero, List.set_cons_succ, List.getElem?_cons_succ, List.getElem?_cons_zero, Option.some.injEq, List.cons.injEq, V.int.injEq, V.str.injEq, V.bl.injEq, V.ref.injEq, and_true, true_and, exists_eq_left, exists_eq_left', exists_eq_right, exists_eq_right', exists_eq, exists_and_left, exists_and_right, and_assoc, exists_false, false_and, and_false, or_false, false_or, reduceCtorEq, Nat.reduceAdd, Nat.reduceSub, List.append_assoc, eq_self, if_true, if_false, Bool.false_eq_true, decide_eq_true_eq, List.length_cons, List.length_nil]
        refine ⟨d, c, 5, rfl, hS3, ndc, by decide, fun r H4 r0 r1 k4 hS4 => ?_⟩
        obtain ⟨rn, rfl⟩ := Int.eq_ofNat_of_zero_le r0
        refine ⟨d, c, rn, rfl, hS4, ndc, by omega, fun D H5 us l hD k5 hS5 hD5 hus hok hlen => ?_⟩
        refine ⟨D, us, rfl, Or.inl ⟨sqL_mk hD5, fun t ht => ⟨t, l, _, _, _, _, _, rfl, hS5.new ht, ⟨us, sqT_mk upd_same, dps_tk (Tk.new ht) _ _ (ptDs_tup l) hus⟩, hok, by omega⟩⟩⟩
      rintro σ H4 ⟨t, l, v2, v4, v5, v6, v7, rfl, hS4, hP4⟩
      refine ⟨LI1 K a d c t l, ?_, ?_⟩
      · refine tforR ?_
        simp only [tSeq, tIfS, tNext, tRet, tRetN, tAsg, tDrop, tPar, tCons, tNil, tCB, tVar, tC, tOp, rI, rI0, rU, tTest, tB, tTup, tLst, gName, tIf, tAnd, tOr, tNot, tAndV, tOrV, tNotV, tUn, tCall, tChain, tSl, tNoPart, tPart, tBM, tBM0, tDGet, sDPut, tAugS, ipI, rIxT, rIxL, rMulK, rLenK, rLstK, tTruK, gTup, gCons, gNil, rEq, rNe, scal, tNever, rMulK, rGcd, L2.start, List.map, List.length, List.replicate, List.cons_append, List.nil_append, List.append_nil, List.set, List.set_cons_zero, List.set_cons_succ, List.getElem?_cons_succ, List.getElem?_cons_zero, Option.some.injEq, List.cons.injEq, V.int.injEq, V.str.injEq, V.bl.injEq, V.ref.injEq, and_true, true_and, exists_eq_left, exists_eq_left', exists_eq_right, exists_eq_right', exists_eq, exists_and_left, exists_and_right, and_assoc, exists_false, false_and, and_false, or_false, false_or, reduceCtorEq, Nat.reduceAdd, Nat.reduceSub, List.append_assoc, eq_self, if_true, if_false, Bool.false_eq_true, decide_eq_true_eq, List.length_cons, List.length_nil]
        obtain ⟨ws, hT, hws⟩ := hP4.at'
        have wl : ws.length = l.length := by rw [dps_len hws, List.length_map]
        have ll := hP4.len
        refine ⟨ws, Or.inr hT, _, rfl, by omega, by omega, ?_⟩
        rw [show ((ws.length : Int) + 1).toNat = l.length + 1 by omega]
        refine for_range (n := l.length + 1) (lo := 0) (fun _ => LI1 K a d c t l) ⟨_, _, _, _, _, rfl, hS4, hP4⟩ ?_ (fun σ H h => h)
        clear hT hws wl
        rintro gap σ H5 hg ⟨v2, v4, v5, v6, v7, rfl, hS5, hP5⟩
        refine ⟨LI3e K a d c t l gap, ?_, ?_⟩
        · simp only [tSeq, tIfS, tNext, tRet, tRetN, tAsg, tDrop, tPar, tCons, tNil, tCB, tVar, tC, tOp, rI, rI0, rU, tTest, tB, tTup, tLst, gName, tIf, tAnd, tOr, tNot, tAndV, tOrV, tNotV, tUn, tCall, tChain, tSl, tNoPart, tPart, tBM, tBM0, tDGet, sDPut, tAugS, ipI, rIxT, rIxL, rMulK, rLenK, rLstK, tTruK, gTup, gCons, gNil, rEq, rNe, scal, tNever, rMulK, rGcd, L2.start, List.map, List.length, List.replicate, List.cons_append, List.nil_append, List.append_nil, List.set, List.set_cons_zero, List.set_cons_succ, List.getElem?_cons_succ, List.getElem?_cons_zero, Option.some.injEq, List.cons.injEq, V.int.injEq, V.str.injEq, V.bl.injEq, V.ref.injEq, and_true, true_and, exists_eq_left, exists_eq_left', exists_eq_right, exists_eq_right', exists_eq, exists_and_left, exists_and_right, and_assoc, exists_false, false_and, and_false, or_false, false_or, reduceCtorEq, Nat.reduceAdd, Nat.reduceSub, List.append_assoc, eq_self, if_true, if_false, Bool.false_eq_true, decide_eq_true_eq, List.length_cons, List.length_nil]
          refine ⟨d, c, 7, rfl, hS5, ndc, by decide, fun r H6 r0 r1 k6 hS6 => ?_⟩
          obtain ⟨rn, rfl⟩ := Int.eq_ofNat_of_zero_le r0
          exact ⟨rn, by omega, _, _, _, (by rw [Int.zero_add]), hS6, hP5.tk (hS5.tk k6)⟩
        rintro σ H6 ⟨n, hn7, v2, v6, v7, rfl, hS6, hP6⟩
        refine ⟨LI4e K a d c t l gap n, ?_, ?_⟩
        · simp only [tSeq, tIfS, tNext, tRet, tRetN, tAsg, tDrop, tPar, tCons, tNil, tCB, tVar, tC, tOp, rI, rI0, rU, tTest, tB, tTup, tLst, gName, tIf, tAnd, tOr, tNot, tAndV, tOrV, tNotV, tUn, tCall, tChain, tSl, tNoPart, tPart, tBM, tBM0, tDGet, sDPut, tAugS, ipI, rIxT, rIxL, rMulK, rLenK, rLstK, tTruK, gTup, gCons, gNil, rEq, rNe, scal, tNever, rMulK, rGcd, L2.start, List.map, List.length, List.replicate, List.cons_append, List.nil_append, List.append_nil, List.set, List.set_cons_zero, List.set_cons_succ, List.getElem?_cons_succ, List.getElem?_cons_zero, Option.some.injEq, List.cons.injEq, V.int.injEq, V.str.injEq, V.bl.injEq, V.ref.injEq, and_true, true_and, exists_eq_left, exists_eq_left', exists_eq_right, exists_eq_right', exists_eq, exists_and_left, exists_and_right, and_assoc, exists_false, false_and, and_false, or_false, false_or, reduceCtorEq, Nat.reduceAdd, Nat.reduceSub, List.append_assoc, eq_self, if_true, if_false, Bool.false_eq_true, decide_eq_true_eq, List.length_cons, List.length_nil]
          obtain ⟨ws, hT, hws⟩ := hP6.at'
          exact ⟨t, ws, l, gap, n, rfl, hT, hws, hP6.ok.mono (by omega), by omega, by omega, by omega, fun D H7 us hD k7 hD7 hus => ⟨D, hS6.d_ne hD, hS6.c_ne hD, _, _, us, rfl, hS6.keep k7, hP6.tk (Tk.of0 k7), hD7, hus⟩⟩
        rintro σ H7 ⟨D, nD, nC, v2, v7, us, rfl, hS7, hP7, hD7, hus⟩
        have gl : gap ≤ l.length := by omega
        have sm := spread_small (n := n) hP4.ok gl (by omega)
        have so := list_ok sm (by rw [List.length_map, spread_len]; omega)
        refine ⟨LI4 K a d c t D l gap n, ?_, ?_⟩
        · simp only [tSeq, tIfS, tNext, tRet, tRetN, tAsg, tDrop, tPar, tCons, tNil, tCB, tVar, tC, tOp, rI, rI0, rU, tTest, tB, tTup, tLst, gName, tIf, tAnd, tOr, tNot, tAndV, tOrV, tNotV, tUn, tCall, tChain, tSl, tNoPart, tPart, tBM, tBM0, tDGet, sDPut, tAugS, ipI, rIxT, rIxL, rMulK, rLenK, rLstK, tTruK, gTup, gCons, gNil, rEq, rNe, scal, tNever, rMulK, rGcd, L2.start, List.map, List.length, List.replicate, List.cons_append, List.nil_append, List.append_nil, List.set, List.set_cons_zero, List.set_cons_succ, List.getElem?_cons_succ, List.getElem?_cons_zero, Option.some.injEq, List.cons.injEq, V.int.injEq, V.str.injEq, V.bl.injEq, V.ref.injEq, and_true, true_and, exists_eq_left, exists_eq_left', exists_eq_right, exists_eq_right', exists_eq, exists_and_left, exists_and_right, and_assoc, exists_false, false_and, and_false, or_false, false_or, reduceCtorEq, Nat.reduceAdd, Nat.reduceSub, List.append_assoc, eq_self, if_true, if_false, Bool.false_eq_true, decide_eq_true_eq, List.length_cons, List.length_nil]
          obtain ⟨ws, hT, hws⟩ := hP7.at'
          refine ⟨V.ref D, V.ty "list", .type "list", .type "list", true, rfl, .ty _, .base (.lst hD7), by unfold PySem.W.kitOne; rw [if_pos (by decide)], true, rfl, ?_⟩
          rw [if_neg (by simp)]
          refine ⟨_, _, rfl, .lst (sqL_mk hD7) hus, so.show', so.lay, so.depth, so.size, ?_⟩
          refine ⟨t, ws, l, gap, n, rfl, hT, hws, hP4.ok.mono (by omega), by omega, by omega, by omega, fun D2 H8 us2 hD2 k8 hD8 hus2 => ?_⟩
          refine ⟨_, _, rfl, .lst (sqL_mk hD8) hus2, so.show', so.lay, so.depth, so.size, rfl, ?_⟩
          rw [if_neg (by simp)]
          have hD7' := k8 D _ hD7 (fun z => z)
          have ul : us.length = n := by rw [dps_len hus, List.length_map, spread_len]
          refine ⟨us, Or.inl (sqL_mk hD7'), ?_⟩
          rw [if_neg (by simp [ul])]
          exact ⟨_, _, us, rfl, hS7.keep k8, hP7.tk (Tk.of0 k8), hD7', dps_tk (Tk.of0 k8) _ _ (ptDs_tup _) hus⟩
        rintro σ H8 ⟨v2, v7, us, rfl, hS8, hP8, hD8, hus⟩
        refine ⟨LI4 K a d c t D l gap n, ?_, ?_⟩
        · simp only [tSeq, tIfS, tNext, tRet, tRetN, tAsg, tDrop, tPar, tCons, tNil, tCB, tVar, tC, tOp, rI, rI0, rU, tTest, tB, tTup, tLst, gName, tIf, tAnd, tOr, tNot, tAndV, tOrV, tNotV, tUn, tCall, tChain, tSl, tNoPart, tPart, tBM, tBM0, tDGet, sDPut, tAugS, ipI, rIxT, rIxL, rMulK, rLenK, rLstK, tTruK, gTup, gCons, gNil, rEq, rNe, scal, tNever, rMulK, rGcd, L2.start, List.map, List.length, List.replicate, List.cons_append, List.nil_append, List.append_nil, List.set, List.set_cons_zero, List.set_cons_succ, List.getElem?_cons_succ, List.getElem?_cons_zero, Option.some.injEq, List.cons.injEq, V.int.injEq, V.str.injEq, V.bl.injEq, V.ref.injEq, and_true, true_and, exists_eq_left, exists_eq_left', exists_eq_right, exists_eq_right', exists_eq, exists_and_left, exists_and_right, and_assoc, exists_false, false_and, and_false, or_false, false_or, reduceCtorEq, Nat.reduceAdd, Nat.reduceSub, List.append_assoc, eq_self, if_true, if_false, Bool.false_eq_true, decide_eq_true_eq, List.length_cons, List.length_nil]
          obtain ⟨ws, hT, hws⟩ := hP8.at'
          refine ⟨t, D, ws, us, l, gap, n, rfl, hT, hws, hP4.ok.mono (by omega), by omega, by omega, by omega, hD8, hus, fun H9 k9 => ⟨true, rfl, ?_⟩⟩
          rw [if_neg (by simp)]
          have hT9 := sqT_tk (Tk.of0 k9) hT
          have hws9 := dps_tk (Tk.of0 k9) _ _ (ptDs_tup _) hws
          have hD9 := k9 D _ hD8 (fun z => z)
          have hus9 := dps_tk (Tk.of0 k9) _ _ (ptDs_tup _) hus
          refine tlcL ?_
          refine ⟨_, rfl, ?_⟩
          refine lcL (K := K) ((spreadP l gap n).map ptD) (fun _ => true) (fun _ => .int gap) (by rw [List.length_map, spread_len, sizeLine_eq]; omega) (sqL_mk hD9) hus9 (ptDs_tup _) (fun _ _ _ => rfl) htt_yes (fun i dd x H' e _ hx k' Q' q' => ?_) fun b H' vs hb k' hb2 hvs => ?_
          · obtain ⟨y, hy, rfl⟩ := List.mem_map.mp (List.mem_of_getElem? e)
            obtain ⟨j, hj, rfl⟩ := spread_mem hy
            obtain ⟨oy, sy, gy, _⟩ := gap_spread hP4.ok gl (by omega) hj
            simp only [tSeq, tIfS, tNext, tRet, tRetN, tAsg, tDrop, tPar, tCons, tNil, tCB, tVar, tC, tOp, rI, rI0, rU, tTest, tB, tTup, tLst, gName, tIf, tAnd, tOr, tNot, tAndV, tOrV, tNotV, tUn, tCall, tChain, tSl, tNoPart, tPart, tBM, tBM0, tDGet, sDPut, tAugS, ipI, rIxT, rIxL, rMulK, rLenK, rLstK, tTruK, gTup, gCons, gNil, rEq, rNe, scal, tNever, rMulK, rGcd, L2.start, List.map, List.length, List.replicate, List.cons_append, List.nil_append, List.append_nil, List.set, List.set_cons_zero, List.set_cons_succ, List.getElem?_cons_succ, List.getElem?_cons_zero, Option.some.injEq, List.cons.injEq, V.int.injEq, V.str.injEq, V.bl.injEq, V.ref.injEq, and_true, true_and, exists_eq_left, exists_eq_left', exists_eq_right, exists_eq_right', exists_eq, exists_and_left, exists_and_right, and_assoc, exists_false, false_and, and_false, or_false, false_or, reduceCtorEq, Nat.reduceAdd, Nat.reduceSub, List.append_assoc, eq_self, if_true, if_false, Bool.false_eq_true, decide_eq_true_eq, List.length_cons, List.length_nil]
            refine ⟨t, x, ws, l, _, rfl, Or.inr (sqT_tk (Tk.of0 k') hT9), dps_tk (Tk.of0 k') _ _ (ptDs_tup _) hws9, hx, hP4.ok.mono (by omega), oy, sy.mono (by omega), by omega, ?_⟩
            rw [gy]
            exact q' _ _ (Kp.refl _) (.int _)
          · have e2 : ((((spreadP l gap n).map ptD).filter fun _ => true).map fun _ => PyData.int gap) = List.replicate n (PyData.int gap) := by
              rw [List.filter_eq_self.mpr (fun _ _ => rfl), List.map_const', List.length_map, spread_len]
            rw [e2] at hvs
            have s2 : ∀ dd ∈ List.replicate n (PyData.int gap), small1 dd = true := fun dd h => by
              rw [List.eq_of_mem_replicate h]
              simp only [small1, decide_eq_true_eq]
              exact abs_mono (m := 20) (by omega) (by omega)
            have so2 := list_ok s2 (by rw [List.length_replicate]; omega)
            refine ⟨_, _, rfl, .lst (sqL_mk hb2) hvs, so2.show', so2.lay, so2.depth, so2.size, by decide, fun p hp => ?_⟩
            have kp := Kp.new (M := M0) (o := .lst [.int gap]) hp
            refine ⟨p, n, _, rfl, rfl, upd_same, by omega, by omega, by rw [sizeLine_eq]; simp; omega, fun p2 hp2 => ?_⟩
            have kp2 := Kp.new (M := M0) (o := .lst (List.replicate (n : Int).toNat [V.int gap]).flatten) hp2
            have e3 : (List.replicate (n : Int).toNat [V.int gap]).flatten = (List.replicate n (gap : Int)).map V.int := by
              rw [Int.toNat_natCast, List.map_replicate]; simp
            have e4 : List.replicate n (PyData.int gap) = (List.replicate n (gap : Int)).map PyData.int := by rw [List.map_replicate]
            refine ⟨.ref p2, .list (List.replicate n (PyData.int gap)), rfl, .lst (sqL_mk upd_same) (by rw [e3, e4]; exact dps_ints _), so2.show', so2.lay, so2.depth, so2.size, rfl, ?_⟩
            rw [if_neg (by simp)]
            have ke := (k'.trans kp).trans kp2
            exact ⟨_, _, us, rfl, (hS8.keep k9).keep ke, (hP8.tk (Tk.of0 k9)).tk (Tk.of0 ke), ke D _ hD9 (fun z => z), dps_tk (Tk.of0 ke) _ _ (ptDs_tup _) hus9⟩
        rintro σ H9 ⟨v2, v7, us, rfl, hS9, hP9, hD9, hus⟩
        refine ⟨LI3 K a d c t l gap n, ?_, ?_⟩
        · simp only [tSeq, tIfS, tNext, tRet, tRetN, tAsg, tDrop, tPar, tCons, tNil, tCB, tVar, tC, tOp, rI, rI0, rU, tTest, tB, tTup, tLst, gName, tIf, tAnd, tOr, tNot, tAndV, tOrV, tNotV, tUn, tCall, tChain, tSl, tNoPart, tPart, tBM, tBM0, tDGet, sDPut, tAugS, ipI, rIxT, rIxL, rMulK, rLenK, rLstK, tTruK, gTup, gCons, gNil, rEq, rNe, scal, tNever, rMulK, rGcd, L2.start, List.map, List.length, List.replicate, List.cons_append, List.nil_append, List.append_nil, List.set, List.set_cons_zero, List.set_cons_succ, List.getElem?_cons_succ, List.getElem?_cons_zero, Option.some.injEq, List.cons.injEq, V.int.injEq, V.str.injEq, V.bl.injEq, V.ref.injEq, and_true, true_and, exists_eq_left, exists_eq_left', exists_eq_right, exists_eq_right', exists_eq, exists_and_left, exists_and_right, and_assoc, exists_false, false_and, and_false, or_false, false_or, reduceCtorEq, Nat.reduceAdd, Nat.reduceSub, List.append_assoc, eq_self, if_true, if_false, Bool.false_eq_true, decide_eq_true_eq, List.length_cons, List.length_nil]
          have ul : us.length = n := by rw [dps_len hus, List.length_map, spread_len]
          exact ⟨Or.inl ⟨rfl, us, sqL_mk hD9⟩, D, us, _, rfl, rfl, hD9, by rw [sizeLine_eq]; omega, ⟨_, _, _, rfl, hS9.other nD nC, hP9.tk (Tk.lst hD9)⟩⟩
        rintro σ H10 ⟨v2, v6, v7, rfl, hS10, hP10⟩
        simp only [tSeq, tIfS, tNext, tRet, tRetN, tAsg, tDrop, tPar, tCons, tNil, tCB, tVar, tC, tOp, rI, rI0, rU, tTest, tB, tTup, tLst, gName, tIf, tAnd, tOr, tNot, tAndV, tOrV, tNotV, tUn, tCall, tChain, tSl, tNoPart, tPart, tBM, tBM0, tDGet, sDPut, tAugS, ipI, rIxT, rIxL, rMulK, rLenK, rLstK, tTruK, gTup, gCons, gNil, rEq, rNe, scal, tNever, rMulK, rGcd, L2.start, List.map, List.length, List.replicate, List.cons_append, List.nil_append, List.append_nil, List.set, List.set_cons_zero, List.set_cons_succ, List.getElem?_cons_succ, List.getElem?_cons_zero, Option.some.injEq, List.cons.injEq, V.int.injEq, V.str.injEq, V.bl.injEq, V.ref.injEq, and_true, true_and, exists_eq_left, exists_eq_left', exists_eq_right, exists_eq_right', exists_eq, exists_and_left, exists_and_right, and_assoc, exists_false, false_and, and_false, or_false, false_or, reduceCtorEq, Nat.reduceAdd, Nat.reduceSub, List.append_assoc, eq_self, if_true, if_false, Bool.false_eq_true, decide_eq_true_eq, List.length_cons, List.length_nil]
        obtain ⟨ws, hT, hws⟩ := hP10.at'
        refine ⟨t, ws, l, gap, n, rfl, hT, hws, hP4.ok.mono (by omega), by omega, by omega, by omega, fun D1 H11 us1 hD1 k11 hD11 hus1 => ?_⟩
        refine ⟨t, ws, l, gap, n, rfl, sqT_tk (Tk.of0 k11) hT, dps_tk (Tk.of0 k11) _ _ (ptDs_tup _) hws, hP4.ok.mono (by omega), by omega, by omega, by omega, fun D2 H12 us2 hD2 k12 hD12 hus2 => ?_⟩
        refine ⟨_, _, .lst (sqL_mk (k12 D1 _ hD11 (fun z => z))) (dps_tk (Tk.of0 k12) _ _ (ptDs_tup _) hus1), .lst (sqL_mk hD12) hus2, list_shaped sm, list_shaped sm, _, rfl, ?_⟩
        rw [if_neg (by simp only [PyData.eqv, eqvs_refl sm]; simp)]
        have ke := k11.trans k12
        exact ⟨_, _, _, _, _, rfl, hS10.keep ke, hP10.tk (Tk.of0 ke)⟩
      rintro σ H5 ⟨v2, v4, v5, v6, v7, rfl, hS5, hP5⟩
      refine ⟨LI1 K a d c t l, ?_, ?_⟩
      · simp only [tSeq, tIfS, tNext, tRet, tRetN, tAsg, tDrop, tPar, tCons, tNil, tCB, tVar, tC, tOp, rI, rI0, rU, tTest, tB, tTup, tLst, gName, tIf, tAnd, tOr, tNot, tAndV, tOrV, tNotV, tUn, tCall, tChain, tSl, tNoPart, tPart, tBM, tBM0, tDGet, sDPut, tAugS, ipI, rIxT, rIxL, rMulK, rLenK, rLstK, tTruK, gTup, gCons, gNil, rEq, rNe, scal, tNever, rMulK, rGcd, L2.start, List.map, List.length, List.replicate, List.cons_append, List.nil_append, List.append_nil, List.set, List.set_cons_zero, List.set_cons_succ, List.getElem?_cons_succ, List.getElem?_cons_zero, Option.some.injEq, List.cons.injEq, V.int.injEq, V.str.injEq, V.bl.injEq, V.ref.injEq, and_true, true_and, exists_eq_left, exists_eq_left', exists_eq_right, exists_eq_right', exists_eq, exists_and_left, exists_and_right, and_assoc, exists_false, false_and, and_false, or_false, false_or, reduceCtorEq, Nat.reduceAdd, Nat.reduceSub, List.append_assoc, eq_self, if_true, if_false, Bool.false_eq_true, decide_eq_true_eq, List.length_cons, List.length_nil]
        obtain ⟨ws, hT, hws⟩ := hP5.at'
        have wl : ws.length = l.length := by rw [dps_len hws, List.length_map]
        have ll := hP5.len
        refine tlcT ?_
        refine ⟨_, rfl, ?_⟩
        refine lcT (K := K) (l.map ptD) (fun _ => true) (fun _ => .none) (by rw [List.length_map, sizeLine_eq]; omega) hT hws (ptDs_tup _) (fun _ _ _ => rfl) htt_yes (fun i dd x H' e _ hx k' Q' q' => ?_) fun b H' vs hb k' hb2 hvs => ?_
        · rw [List.getElem?_map] at e
          obtain ⟨y, hy, rfl⟩ := Option.map_eq_some_iff.mp e
          have my := List.mem_of_getElem? hy
          simp only [tSeq, tIfS, tNext, tRet, tRetN, tAsg, tDrop, tPar, tCons, tNil, tCB, tVar, tC, tOp, rI, rI0, rU, tTest, tB, tTup, tLst, gName, tIf, tAnd, tOr, tNot, tAndV, tOrV, tNotV, tUn, tCall, tChain, tSl, tNoPart, tPart, tBM, tBM0, tDGet, sDPut, tAugS, ipI, rIxT, rIxL, rMulK, rLenK, rLstK, tTruK, gTup, gCons, gNil, rEq, rNe, scal, tNever, rMulK, rGcd, L2.start, List.map, List.length, List.replicate, List.cons_append, List.nil_append, List.append_nil, List.set, List.set_cons_zero, List.set_cons_succ, List.getElem?_cons_succ, List.getElem?_cons_zero, Option.some.injEq, List.cons.injEq, V.int.injEq, V.str.injEq, V.bl.injEq, V.ref.injEq, and_true, true_and, exists_eq_left, exists_eq_left', exists_eq_right, exists_eq_right', exists_eq, exists_and_left, exists_and_right, and_assoc, exists_false, false_and, and_false, or_false, false_or, reduceCtorEq, Nat.reduceAdd, Nat.reduceSub, List.append_assoc, eq_self, if_true, if_false, Bool.false_eq_true, decide_eq_true_eq, List.length_cons, List.length_nil]
          refine ⟨t, x, ws, l, y, rfl, Or.inr (sqT_tk (Tk.of0 k') hT), dps_tk (Tk.of0 k') _ _ (ptDs_tup _) hws, hx, hP5.ok.mono (by omega), hP5.ok.ok _ my, (hP5.ok.sz _ my).mono (by omega), by omega, ?_⟩
          rw [(gap_here hP5.ok hy).1]
          exact q' _ _ (Kp.refl _) .non
        · have e2 : (((l.map ptD).filter fun _ => true).map fun _ => PyData.none) = List.replicate l.length PyData.none := by
            rw [List.filter_eq_self.mpr (fun _ _ => rfl), List.map_const', List.length_map]
          rw [e2] at hvs
          have s2 : ∀ dd ∈ List.replicate l.length PyData.none, small1 dd = true := fun dd h => by
            rw [List.eq_of_mem_replicate h]; rfl
          refine ⟨by decide, fun p hp => ?_⟩
          have kp := Kp.new (M := M0) (o := .lst [.non]) hp
          refine ⟨ws, Or.inr (sqT_tk (Tk.of0 (k'.trans kp)) hT), ?_⟩
          refine ⟨p, ws.length, _, rfl, rfl, upd_same, by omega, by omega, by rw [sizeLine_eq]; simp; omega, fun p2 hp2 => ?_⟩
          have kp2 := Kp.new (M := M0) (o := .lst (List.replicate (ws.length : Int).toNat [V.non]).flatten) hp2
          have e3 : (List.replicate (ws.length : Int).toNat [V.non]).flatten = List.replicate l.length V.non := by
            rw [Int.toNat_natCast, wl]; simp
          have nones : ∀ (H : Hp) (n : Nat), DpAll K H (List.replicate n V.non) (List.replicate n PyData.none) := fun H n => by
            induction n with
            | zero => exact .nil
            | succ n ih => exact .cons .non ih
          have ke := (k'.trans kp).trans kp2
          refine ⟨.list (List.replicate l.length .none), .list (List.replicate l.length .none), .lst (sqL_mk ((kp.trans kp2) b _ hb2 (fun z => z))) (dps_tk (Tk.of0 (kp.trans kp2)) _ _ (tupDs_all.mpr fun dd h => by rw [List.eq_of_mem_replicate h]; rfl) hvs), .lst (sqL_mk upd_same) (by rw [e3]; exact nones _ _), list_shaped s2, list_shaped s2, _, rfl, ?_⟩
          rw [if_neg (by simp only [PyData.eqv, eqvs_refl s2]; simp)]
          exact ⟨_, _, _, _, _, rfl, hS5.keep ke, hP5.tk (Tk.of0 ke)⟩
      rintro σ H6 ⟨v2, v4, v5, v6, v7, rfl, hS6, hP6⟩
      refine tforL ?_
      simp only [tSeq, tIfS, tNext, tRet, tRetN, tAsg, tDrop, tPar, tCons, tNil, tCB, tVar, tC, tOp, rI, rI0, rU, tTest, tB, tTup, tLst, gName, tIf, tAnd, tOr, tNot, tAndV, tOrV, tNotV, tUn, tCall, tChain, tSl, tNoPart, tPart, tBM, tBM0, tDGet, sDPut, tAugS, ipI, rIxT, rIxL, rMulK, rLenK, rLstK, tTruK, gTup, gCons, gNil, rEq, rNe, scal, tNever, rMulK, rGcd, L2.start, List.map, List.length, List.replicate, List.cons_append, List.nil_append, List.append_nil, List.set, List.set_cons_zero, List.set_cons_succ, List.getElem?_cons_succ, List.getElem?_cons_zero, Option.some.injEq, List.cons.injEq, V.int.injEq, V.str.injEq, V.bl.injEq, V.ref.injEq, and_true, true_and, exists_eq_left, exists_eq_left', exists_eq_right, exists_eq_right', exists_eq, exists_and_left, exists_and_right, and_assoc, exists_false, false_and, and_false, or_false, false_or, reduceCtorEq, Nat.reduceAdd, Nat.reduceSub, List.append_assoc, eq_self, if_true, if_false, Bool.false_eq_true, decide_eq_true_eq, List.length_cons, List.length_nil]
      refine ⟨d, c, 4, rfl, hS6, ndc, by omega, fun D H7 us l2 hD k7 hS7 hD7 hus hok hlen => ?_⟩
      refine ⟨by decide, fun p0 h0 => ⟨by decide, fun p1 h1 => ⟨by decide, fun p2 h2 => ⟨by decide, fun p3 h3 => ⟨by decide, fun p4 h4 => ?_⟩⟩⟩⟩⟩
      have hP7 := hP6.tk (hS6.tk k7)
      have g0 := Kp.new (M := M0) (o := .tup [.int 0, .int 1]) h0
      have g1 := Kp.new (M := M0) (o := .tup [.int (-30), .int 1]) h1
      have g2 := Kp.new (M := M0) (o := .tup [.int 30, .int 1]) h2
      have g3 := Kp.new (M := M0) (o := .tup [.int 1, .int 60]) h3
      have g4 := Kp.new (M := M0) (o := .lst [.ref p0, .ref p1, .ref p2, .ref p3]) h4
      have at4 : DpAll K _ [.ref p0, .ref p1, .ref p2, .ref p3] (ex4.map ptD) :=
        .cons (dp_tk (Tk.of0 (((g1.trans g2).trans g3).trans g4)) _ _ rfl (pt_mk (K := K) (p := 0) (q := 1) (sqT_mk upd_same)))
          (.cons (dp_tk (Tk.of0 ((g2.trans g3).trans g4)) _ _ rfl (pt_mk (K := K) (p := -30) (q := 1) (sqT_mk upd_same)))
          (.cons (dp_tk (Tk.of0 (g3.trans g4)) _ _ rfl (pt_mk (K := K) (p := 30) (q := 1) (sqT_mk upd_same)))
          (.cons (dp_tk (Tk.of0 g4) _ _ rfl (pt_mk (K := K) (p := 1) (q := 60) (sqT_mk upd_same))) .nil)))
      have kg := (((g0.trans g1).trans g2).trans g3).trans g4
      refine ⟨D, p4, us, _, rfl, rfl, kg D _ hD7 (fun z => z), upd_same, ?_, fun p5 h5 => ?_⟩
      · have ul : us.length = 4 := by rw [dps_len hus, List.length_map, hlen]
        rw [sizeLine_eq, ul]; show 4 + 4 ≤ 16777216; decide
      have g5 := Kp.new (M := M0) (o := .lst (us ++ [.ref p0, .ref p1, .ref p2, .ref p3])) h5
      have ke := kg.trans g5
      have all := dps_app (dps_tk (Tk.of0 ke) _ _ (ptDs_tup l2) hus) (dps_tk (Tk.of0 g5) _ _ (ptDs_tup ex4) at4)
      rw [← List.map_append] at all
      refine ⟨p5, rfl, ⟨_, sqL_mk upd_same⟩, ?_⟩
      have ml : ∀ x ∈ l2 ++ ex4, PtOk x ∧ Sz 100 x := fun x h => by
        rcases List.mem_append.mp h with h | h
        · exact ⟨hok.ok x h, hok.sz x h⟩
        · exact ex4_ok h
      refine for_list (xs := us ++ [.ref p0, .ref p1, .ref p2, .ref p3]) (LIG K a d c t l _) ⟨⟨_, _, _, _, _, rfl, hS7.keep ke, hP7.tk (Tk.of0 ke)⟩, Kp.refl _⟩ ?_ ?_ ?_
      · rintro i σ H8 hi ⟨_, k8⟩
        exact sqL_mk (k8 p5 _ upd_same (fun z => z))
      · rintro i x σ H8 hx ⟨⟨v2, v4, v5, v6, v7, rfl, hS8, hP8⟩, k8⟩
        obtain ⟨dd, e1, dx⟩ := dps_get all hx
        rw [List.getElem?_map] at e1
        obtain ⟨y, hy, rfl⟩ := Option.map_eq_some_iff.mp e1
        obtain ⟨oy, sy⟩ := ml y (List.mem_of_getElem? hy)
        obtain ⟨ws, hT, hws⟩ := hP8.at'
        have ll := hP8.len
        have go := gap_ok (l := l) (y := y) (by omega)
        simp only [tSeq, tIfS, tNext, tRet, tRetN, tAsg, tDrop, tPar, tCons, tNil, tCB, tVar, tC, tOp, rI, rI0, rU, tTest, tB, tTup, tLst, gName, tIf, tAnd, tOr, tNot, tAndV, tOrV, tNotV, tUn, tCall, tChain, tSl, tNoPart, tPart, tBM, tBM0, tDGet, sDPut, tAugS, ipI, rIxT, rIxL, rMulK, rLenK, rLstK, tTruK, gTup, gCons, gNil, rEq, rNe, scal, tNever, rMulK, rGcd, L2.start, List.map, List.length, List.replicate, List.cons_append, List.nil_append, List.append_nil, List.set, List.set_cons_zero, List.set_cons_succ, List.getElem?_cons_succ, List.getElem?_cons_zero, Option.some.injEq, List.cons.injEq, V.int.injEq, V.str.injEq, V.bl.injEq, V.ref.injEq, and_true, true_and, exists_eq_left, exists_eq_left', exists_eq_right, exists_eq_right', exists_eq, exists_and_left, exists_and_right, and_assoc, exists_false, false_and, and_false, or_false, false_or, reduceCtorEq, Nat.reduceAdd, Nat.reduceSub, List.append_assoc, eq_self, if_true, if_false, Bool.false_eq_true, decide_eq_true_eq, List.length_cons, List.length_nil]
        refine ⟨t, x, ws, l, y, rfl, Or.inr hT, hws, dp_tk (Tk.of0 k8) _ _ rfl dx, hP8.ok.mono (by omega), oy, sy.mono (by omega), by omega, ?_⟩
        refine ⟨_, gapD l y, rfl, gapVD, go.show', go.lay, go.depth, go.size, ?_⟩
        refine ⟨t, x, ws, l, y, rfl, hT, hws, dp_tk (Tk.of0 k8) _ _ rfl dx, hP8.ok.mono (by omega), by omega, oy, sy.mono (by omega), fun H9 k9 => ?_⟩
        refine ⟨_, gapD l y, rfl, gapVD, go.show', go.lay, go.depth, go.size, rfl, ?_⟩
        rw [if_neg (by simp)]
        exact ⟨⟨_, _, _, _, _, rfl, hS8.keep k9, hP8.tk (Tk.of0 k9)⟩, k8.trans k9⟩
      · rintro σ H8 ⟨⟨v2, v4, v5, v6, v7, rfl, hS8, hP8⟩, k8⟩
        exact ⟨_, _, _, _, _, _, rfl, hS8⟩
    · rintro σ H3 ⟨v2, v3, v4, v5, v6, v7, rfl, hS3⟩
      simp only [tSeq, tIfS, tNext, tRet, tRetN, tAsg, tDrop, tPar, tCons, tNil, tCB, tVar, tC, tOp, rI, rI0, rU, tTest, tB, tTup, tLst, gName, tIf, tAnd, tOr, tNot, tAndV, tOrV, tNotV, tUn, tCall, tChain, tSl, tNoPart, tPart, tBM, tBM0, tDGet, sDPut, tAugS, ipI, rIxT, rIxL, rMulK, rLenK, rLstK, tTruK, gTup, gCons, gNil, rEq, rNe, scal, tNever, rMulK, rGcd, L2.start, List.map, List.length, List.replicate, List.cons_append, List.nil_append, List.append_nil, List.set, List.set_cons_zero, List.set_cons_succ, List.getElem?_cons_succ, List.getElem?_cons_zero, Option.some.injEq, List.cons.injEq, V.int.injEq, V.str.injEq, V.bl.injEq, V.ref.injEq, and_true, true_and, exists_eq_left, exists_eq_left', exists_eq_right, exists_eq_right', exists_eq, exists_and_left, exists_and_right, and_assoc, exists_false, false_and, and_false, or_false, false_or, reduceCtorEq, Nat.reduceAdd, Nat.reduceSub, List.append_assoc, eq_self, if_true, if_false, Bool.false_eq_true, decide_eq_true_eq, List.length_cons, List.length_nil]
      exact k H3
end
end G
set_option Elab.async false
set_option linter.all false
set_option maxRecDepth 100000
namespace G
open PySem L2
theorem all_mk {w : World} {K : PySem.W.Frag} {h : Heap} {mg : Str → Option Value} {fa f0 f1 f2 f3 f4 f5 f6 f7 f8 f9 f10 f11 f12 f13 f14 f15 f16 f17 f18 f19 : Addr} (X : K.In h) (G : h.Ns mainGlobals mg) (hfa : mg "law" = some (.ref fa))
    {od0 an0 : Option Addr} {sl0 : Array (Option Value)} {oc0 kV0 dc0 pm0 cd0 ct0 : Value} {od1 an1 : Option Addr} {sl1 : Array (Option Value)} {oc1 kV1 dc1 pm1 cd1 ct1 : Value} {od2 an2 : Option Addr} {sl2 : Array (Option Value)} {oc2 kV2 dc2 pm2 cd2 ct2 : Value} {od3 an3 : Option Addr} {sl3 : Array (Option Value)} {oc3 kV3 dc3 pm3 cd3 ct3 : Value} {od4 an4 : Option Addr} {sl4 : Array (Option Value)} {oc4 kV4 dc4 pm4 cd4 ct4 : Value} {od5 an5 : Option Addr} {sl5 : Array (Option Value)} {oc5 kV5 dc5 pm5 cd5 ct5 : Value} {od6 an6 : Option Addr} {sl6 : Array (Option Value)} {oc6 kV6 dc6 pm6 cd6 ct6 : Value} {od7 an7 : Option Addr} {sl7 : Array (Option Value)} {oc7 kV7 dc7 pm7 cd7 ct7 : Value} {od8 an8 : Option Addr} {sl8 : Array (Option Value)} {oc8 kV8 dc8 pm8 cd8 ct8 : Value} {od9 an9 : Option Addr} {sl9 : Array (Option Value)} {oc9 kV9 dc9 pm9 cd9 ct9 : Value} {od10 an10 : Option Addr} {sl10 : Array (Option Value)} {oc10 kV10 dc10 pm10 cd10 ct10 : Value} {od11 an11 : Option Addr} {sl11 : Array (Option Value)} {oc11 kV11 dc11 pm11 cd11 ct11 : Value} {od12 an12 : Option Addr} {sl12 : Array (Option Value)} {oc12 kV12 dc12 pm12 cd12 ct12 : Value} {od13 an13 : Option Addr} {sl13 : Array (Option Value)} {oc13 kV13 dc13 pm13 cd13 ct13 : Value} {od14 an14 : Option Addr} {sl14 : Array (Option Value)} {oc14 kV14 dc14 pm14 cd14 ct14 : Value} {od15 an15 : Option Addr} {sl15 : Array (Option Value)} {oc15 kV15 dc15 pm15 cd15 ct15 : Value} {od16 an16 : Option Addr} {sl16 : Array (Option Value)} {oc16 kV16 dc16 pm16 cd16 ct16 : Value} {od17 an17 : Option Addr} {sl17 : Array (Option Value)} {oc17 kV17 dc17 pm17 cd17 ct17 : Value} {od18 an18 : Option Addr} {sl18 : Array (Option Value)} {oc18 kV18 dc18 pm18 cd18 ct18 : Value} {od19 an19 : Option Addr} {sl19 : Array (Option Value)} {oc19 kV19 dc19 pm19 cd19 ct19 : Value}
    (a0 : PySem.W.nsIn K mainGlobals "copied" = some (some (.ref f0))) (l0 : K.lookup f0 = some ⟨oc0, od0, .func (PySem.W.fnOf "copied" "copied" (defArgs s_copied) (defBody s_copied) (defScope s_copied) .none kV0 dc0 pm0 an0 cd0 ct0), sl0⟩) (c0 : PySem.W.codeIn K cd0 "copied" = true) (k0 : PySem.W.keepIn K (.ref f0) = true)
    (a1 : PySem.W.nsIn K mainGlobals "parts_in" = some (some (.ref f1))) (l1 : K.lookup f1 = some ⟨oc1, od1, .func (PySem.W.fnOf "parts_in" "parts_in" (defArgs s_parts_in) (defBody s_parts_in) (defScope s_parts_in) .none kV1 dc1 pm1 an1 cd1 ct1), sl1⟩) (c1 : PySem.W.codeIn K cd1 "parts_in" = true) (k1 : PySem.W.keepIn K (.ref f1) = true)
    (a2 : PySem.W.nsIn K mainGlobals "put_together" = some (some (.ref f2))) (l2 : K.lookup f2 = some ⟨oc2, od2, .func (PySem.W.fnOf "put_together" "put_together" (defArgs s_put_together) (defBody s_put_together) (defScope s_put_together) .none kV2 dc2 pm2 an2 cd2 ct2), sl2⟩) (c2 : PySem.W.codeIn K cd2 "put_together" = true) (k2 : PySem.W.keepIn K (.ref f2) = true)
    (a3 : PySem.W.nsIn K mainGlobals "make_point" = some (some (.ref f3))) (l3 : K.lookup f3 = some ⟨oc3, od3, .func (PySem.W.fnOf "make_point" "make_point" (defArgs s_make_point) (defBody s_make_point) (defScope s_make_point) .none kV3 dc3 pm3 an3 cd3 ct3), sl3⟩) (c3 : PySem.W.codeIn K cd3 "make_point" = true) (k3 : PySem.W.keepIn K (.ref f3) = true)
    (a4 : PySem.W.nsIn K mainGlobals "is_before" = some (some (.ref f4))) (l4 : K.lookup f4 = some ⟨oc4, od4, .func (PySem.W.fnOf "is_before" "is_before" (defArgs s_is_before) (defBody s_is_before) (defScope s_is_before) .none kV4 dc4 pm4 an4 cd4 ct4), sl4⟩) (c4 : PySem.W.codeIn K cd4 "is_before" = true) (k4 : PySem.W.keepIn K (.ref f4) = true)
    (a5 : PySem.W.nsIn K mainGlobals "code_of" = some (some (.ref f5))) (l5 : K.lookup f5 = some ⟨oc5, od5, .func (PySem.W.fnOf "code_of" "code_of" (defArgs s_code_of) (defBody s_code_of) (defScope s_code_of) .none kV5 dc5 pm5 an5 cd5 ct5), sl5⟩) (c5 : PySem.W.codeIn K cd5 "code_of" = true) (k5 : PySem.W.keepIn K (.ref f5) = true)
    (a6 : PySem.W.nsIn K mainGlobals "gap_of" = some (some (.ref f6))) (l6 : K.lookup f6 = some ⟨oc6, od6, .func (PySem.W.fnOf "gap_of" "gap_of" (defArgs s_gap_of) (defBody s_gap_of) (defScope s_gap_of) .none kV6 dc6 pm6 an6 cd6 ct6), sl6⟩) (c6 : PySem.W.codeIn K cd6 "gap_of" = true) (k6 : PySem.W.keepIn K (.ref f6) = true)
    (a7 : PySem.W.nsIn K mainGlobals "spread" = some (some (.ref f7))) (l7 : K.lookup f7 = some ⟨oc7, od7, .func (PySem.W.fnOf "spread" "spread" (defArgs s_spread) (defBody s_spread) (defScope s_spread) .none kV7 dc7 pm7 an7 cd7 ct7), sl7⟩) (c7 : PySem.W.codeIn K cd7 "spread" = true) (k7 : PySem.W.keepIn K (.ref f7) = true)
    (a8 : PySem.W.nsIn K mainGlobals "between" = some (some (.ref f8))) (l8 : K.lookup f8 = some ⟨oc8, od8, .func (PySem.W.fnOf "between" "between" (defArgs s_between) (defBody s_between) (defScope s_between) .none kV8 dc8 pm8 an8 cd8 ct8), sl8⟩) (c8 : PySem.W.codeIn K cd8 "between" = true) (k8 : PySem.W.keepIn K (.ref f8) = true)
    (a9 : PySem.W.nsIn K mainGlobals "_law_open_cells" = some (some (.ref f9))) (l9 : K.lookup f9 = some ⟨oc9, od9, .func (PySem.W.fnOf "_law_open_cells" "_law_open_cells" (defArgs s__law_open_cells) (defBody s__law_open_cells) (defScope s__law_open_cells) .none kV9 dc9 pm9 an9 cd9 ct9), sl9⟩) (c9 : PySem.W.codeIn K cd9 "_law_open_cells" = true) (k9 : PySem.W.keepIn K (.ref f9) = true)
    (a10 : PySem.W.nsIn K mainGlobals "_law_pick" = some (some (.ref f10))) (l10 : K.lookup f10 = some ⟨oc10, od10, .func (PySem.W.fnOf "_law_pick" "_law_pick" (defArgs s__law_pick) (defBody s__law_pick) (defScope s__law_pick) .none kV10 dc10 pm10 an10 cd10 ct10), sl10⟩) (c10 : PySem.W.codeIn K cd10 "_law_pick" = true) (k10 : PySem.W.keepIn K (.ref f10) = true)
    (a11 : PySem.W.nsIn K mainGlobals "_law_point" = some (some (.ref f11))) (l11 : K.lookup f11 = some ⟨oc11, od11, .func (PySem.W.fnOf "_law_point" "_law_point" (defArgs s__law_point) (defBody s__law_point) (defScope s__law_point) .none kV11 dc11 pm11 an11 cd11 ct11), sl11⟩) (c11 : PySem.W.codeIn K cd11 "_law_point" = true) (k11 : PySem.W.keepIn K (.ref f11) = true)
    (a12 : PySem.W.nsIn K mainGlobals "_law_less" = some (some (.ref f12))) (l12 : K.lookup f12 = some ⟨oc12, od12, .func (PySem.W.fnOf "_law_less" "_law_less" (defArgs s__law_less) (defBody s__law_less) (defScope s__law_less) .none kV12 dc12 pm12 an12 cd12 ct12), sl12⟩) (c12 : PySem.W.codeIn K cd12 "_law_less" = true) (k12 : PySem.W.keepIn K (.ref f12) = true)
    (a13 : PySem.W.nsIn K mainGlobals "_law_spread" = some (some (.ref f13))) (l13 : K.lookup f13 = some ⟨oc13, od13, .func (PySem.W.fnOf "_law_spread" "_law_spread" (defArgs s__law_spread) (defBody s__law_spread) (defScope s__law_spread) .none kV13 dc13 pm13 an13 cd13 ct13), sl13⟩) (c13 : PySem.W.codeIn K cd13 "_law_spread" = true) (k13 : PySem.W.keepIn K (.ref f13) = true)
    (a14 : PySem.W.nsIn K mainGlobals "_law_draw_points" = some (some (.ref f14))) (l14 : K.lookup f14 = some ⟨oc14, od14, .func (PySem.W.fnOf "_law_draw_points" "_law_draw_points" (defArgs s__law_draw_points) (defBody s__law_draw_points) (defScope s__law_draw_points) .none kV14 dc14 pm14 an14 cd14 ct14), sl14⟩) (c14 : PySem.W.codeIn K cd14 "_law_draw_points" = true) (k14 : PySem.W.keepIn K (.ref f14) = true)
    (a15 : PySem.W.nsIn K mainGlobals "_law_apart" = some (some (.ref f15))) (l15 : K.lookup f15 = some ⟨oc15, od15, .func (PySem.W.fnOf "_law_apart" "_law_apart" (defArgs s__law_apart) (defBody s__law_apart) (defScope s__law_apart) .none kV15 dc15 pm15 an15 cd15 ct15), sl15⟩) (c15 : PySem.W.codeIn K cd15 "_law_apart" = true) (k15 : PySem.W.keepIn K (.ref f15) = true)
    (a16 : PySem.W.nsIn K mainGlobals "_law_is_even" = some (some (.ref f16))) (l16 : K.lookup f16 = some ⟨oc16, od16, .func (PySem.W.fnOf "_law_is_even" "_law_is_even" (defArgs s__law_is_even) (defBody s__law_is_even) (defScope s__law_is_even) .none kV16 dc16 pm16 an16 cd16 ct16), sl16⟩) (c16 : PySem.W.codeIn K cd16 "_law_is_even" = true) (k16 : PySem.W.keepIn K (.ref f16) = true)
    (a17 : PySem.W.nsIn K mainGlobals "_law_gap_due" = some (some (.ref f17))) (l17 : K.lookup f17 = some ⟨oc17, od17, .func (PySem.W.fnOf "_law_gap_due" "_law_gap_due" (defArgs s__law_gap_due) (defBody s__law_gap_due) (defScope s__law_gap_due) .none kV17 dc17 pm17 an17 cd17 ct17), sl17⟩) (c17 : PySem.W.codeIn K cd17 "_law_gap_due" = true) (k17 : PySem.W.keepIn K (.ref f17) = true)
    (a18 : PySem.W.nsIn K mainGlobals "_law_near_right" = some (some (.ref f18))) (l18 : K.lookup f18 = some ⟨oc18, od18, .func (PySem.W.fnOf "_law_near_right" "_law_near_right" (defArgs s__law_near_right) (defBody s__law_near_right) (defScope s__law_near_right) .none kV18 dc18 pm18 an18 cd18 ct18), sl18⟩) (c18 : PySem.W.codeIn K cd18 "_law_near_right" = true) (k18 : PySem.W.keepIn K (.ref f18) = true)
    (a19 : PySem.W.nsIn K mainGlobals "law" = some (some (.ref f19))) (l19 : K.lookup f19 = some ⟨oc19, od19, .func (PySem.W.fnOf "law" "law" (defArgs s_law) (defBody s_law) (defScope s_law) .none kV19 dc19 pm19 an19 cd19 ct19), sl19⟩) (c19 : PySem.W.codeIn K cd19 "law" = true) (k19 : PySem.W.keepIn K (.ref f19) = true)
    (z_abs : PySem.W.nsIn K mainGlobals "abs" = some none)
    (z_int : PySem.W.nsIn K mainGlobals "int" = some none)
    (z_len : PySem.W.nsIn K mainGlobals "len" = some none)
    (z_range : PySem.W.nsIn K mainGlobals "range" = some none)
    (z_all : PySem.W.nsIn K mainGlobals "all" = some none)
    (z_list : PySem.W.nsIn K mainGlobals "list" = some none)
    (z_tuple : PySem.W.nsIn K mainGlobals "tuple" = some none)
    (z_isinstance : PySem.W.nsIn K mainGlobals "isinstance" = some none)
    (z_repr : PySem.W.nsIn K mainGlobals "repr" = some none)
    (z_enumerate : PySem.W.nsIn K mainGlobals "enumerate" = some none)
    (z_dict : PySem.W.nsIn K mainGlobals "dict" = some none)
    (i_gcd : PySem.W.nsIn K mainGlobals "gcd" = some (some (.builtin "math.gcd"))) :
    ∃ fd : FuncData, (∀ (s : Shared) (v : Value), BindsTo s fd ⟨[v], []⟩ [("script", v)]) ∧ ∀ base : Heap, K.In base → base.Ns mainGlobals mg → FnG PySem.Challenge.rw_gapwise_k02_gaps_and_spread.prog w K mg base 6 fa fd ["script"] (sp_law K) := by
  have e := hfa.symm.trans (PySem.W.mg_of X G a19)
  cases e
  have F0 := fun_mk (st := s_copied) l0 c0 k0
  have b0 := F0.binds (ps := P_copied) fun _ _ _ _ _ _ us hl => match us, hl with | [_], _ => rfl
  have F1 := fun_mk (st := s_parts_in) l1 c1 k1
  have b1 := F1.binds (ps := P_parts_in) fun _ _ _ _ _ _ us hl => match us, hl with | [_], _ => rfl
  have F2 := fun_mk (st := s_put_together) l2 c2 k2
  have b2 := F2.binds (ps := P_put_together) fun _ _ _ _ _ _ us hl => match us, hl with | [_, _], _ => rfl
  have F3 := fun_mk (st := s_make_point) l3 c3 k3
  have b3 := F3.binds (ps := P_make_point) fun _ _ _ _ _ _ us hl => match us, hl with | [_, _], _ => rfl
  have F4 := fun_mk (st := s_is_before) l4 c4 k4
  have b4 := F4.binds (ps := P_is_before) fun _ _ _ _ _ _ us hl => match us, hl with | [_, _], _ => rfl
  have F5 := fun_mk (st := s_code_of) l5 c5 k5
  have b5 := F5.binds (ps := P_code_of) fun _ _ _ _ _ _ us hl => match us, hl with | [_, _], _ => rfl
  have F6 := fun_mk (st := s_gap_of) l6 c6 k6
  have b6 := F6.binds (ps := P_gap_of) fun _ _ _ _ _ _ us hl => match us, hl with | [_, _], _ => rfl
  have F7 := fun_mk (st := s_spread) l7 c7 k7
  have b7 := F7.binds (ps := P_spread) fun _ _ _ _ _ _ us hl => match us, hl with | [_, _, _], _ => rfl
  have F8 := fun_mk (st := s_between) l8 c8 k8
  have b8 := F8.binds (ps := P_between) fun _ _ _ _ _ _ us hl => match us, hl with | [_, _, _, _], _ => rfl
  have F9 := fun_mk (st := s__law_open_cells) l9 c9 k9
  have b9 := F9.binds (ps := P__law_open_cells) fun _ _ _ _ _ _ us hl => match us, hl with | [_], _ => rfl
  have F10 := fun_mk (st := s__law_pick) l10 c10 k10
  have b10 := F10.binds (ps := P__law_pick) fun _ _ _ _ _ _ us hl => match us, hl with | [_, _], _ => rfl
  have F11 := fun_mk (st := s__law_point) l11 c11 k11
  have b11 := F11.binds (ps := P__law_point) fun _ _ _ _ _ _ us hl => match us, hl with | [_, _], _ => rfl
  have F12 := fun_mk (st := s__law_less) l12 c12 k12
  have b12 := F12.binds (ps := P__law_less) fun _ _ _ _ _ _ us hl => match us, hl with | [_, _], _ => rfl
  have F13 := fun_mk (st := s__law_spread) l13 c13 k13
  have b13 := F13.binds (ps := P__law_spread) fun _ _ _ _ _ _ us hl => match us, hl with | [_, _, _], _ => rfl
  have F14 := fun_mk (st := s__law_draw_points) l14 c14 k14
  have b14 := F14.binds (ps := P__law_draw_points) fun _ _ _ _ _ _ us hl => match us, hl with | [_, _], _ => rfl
  have F15 := fun_mk (st := s__law_apart) l15 c15 k15
  have b15 := F15.binds (ps := P__law_apart) fun _ _ _ _ _ _ us hl => match us, hl with | [_, _], _ => rfl
  have F16 := fun_mk (st := s__law_is_even) l16 c16 k16
  have b16 := F16.binds (ps := P__law_is_even) fun _ _ _ _ _ _ us hl => match us, hl with | [_, _, _], _ => rfl
  have F17 := fun_mk (st := s__law_gap_due) l17 c17 k17
  have b17 := F17.binds (ps := P__law_gap_due) fun _ _ _ _ _ _ us hl => match us, hl with | [_, _], _ => rfl
  have F18 := fun_mk (st := s__law_near_right) l18 c18 k18
  have b18 := F18.binds (ps := P__law_near_right) fun _ _ _ _ _ _ us hl => match us, hl with | [_], _ => rfl
  have F19 := fun_mk (st := s_law) l19 c19 k19
  have b19 := F19.binds (ps := P_law) fun _ _ _ _ _ _ us hl => match us, hl with | [_], _ => rfl
  let W : Ds K mg := {
    T := { b_abs := PySem.W.mg_none_of X G z_abs, b_int := PySem.W.mg_none_of X G z_int, b_len := PySem.W.mg_none_of X G z_len, b_range := PySem.W.mg_none_of X G z_range, b_all := PySem.W.mg_none_of X G z_all, b_list := PySem.W.mg_none_of X G z_list, b_tuple := PySem.W.mg_none_of X G z_tuple, b_isinstance := PySem.W.mg_none_of X G z_isinstance, b_repr := PySem.W.mg_none_of X G z_repr, b_enumerate := PySem.W.mg_none_of X G z_enumerate, b_dict := PySem.W.mg_none_of X G z_dict, i_gcd := PySem.W.mg_of X G i_gcd },
    f_copied := f0, fd_copied := _, D_copied := ⟨F0, PySem.W.mg_of X G a0, b0⟩,
    f_parts_in := f1, fd_parts_in := _, D_parts_in := ⟨F1, PySem.W.mg_of X G a1, b1⟩,
    f_put_together := f2, fd_put_together := _, D_put_together := ⟨F2, PySem.W.mg_of X G a2, b2⟩,
    f_make_point := f3, fd_make_point := _, D_make_point := ⟨F3, PySem.W.mg_of X G a3, b3⟩,
    f_is_before := f4, fd_is_before := _, D_is_before := ⟨F4, PySem.W.mg_of X G a4, b4⟩,
    f_code_of := f5, fd_code_of := _, D_code_of := ⟨F5, PySem.W.mg_of X G a5, b5⟩,
    f_gap_of := f6, fd_gap_of := _, D_gap_of := ⟨F6, PySem.W.mg_of X G a6, b6⟩,
    f_spread := f7, fd_spread := _, D_spread := ⟨F7, PySem.W.mg_of X G a7, b7⟩,
    f_between := f8, fd_between := _, D_between := ⟨F8, PySem.W.mg_of X G a8, b8⟩,
    f__law_open_cells := f9, fd__law_open_cells := _, D__law_open_cells := ⟨F9, PySem.W.mg_of X G a9, b9⟩,
    f__law_pick := f10, fd__law_pick := _, D__law_pick := ⟨F10, PySem.W.mg_of X G a10, b10⟩,
    f__law_point := f11, fd__law_point := _, D__law_point := ⟨F11, PySem.W.mg_of X G a11, b11⟩,
    f__law_less := f12, fd__law_less := _, D__law_less := ⟨F12, PySem.W.mg_of X G a12, b12⟩,
    f__law_spread := f13, fd__law_spread := _, D__law_spread := ⟨F13, PySem.W.mg_of X G a13, b13⟩,
    f__law_draw_points := f14, fd__law_draw_points := _, D__law_draw_points := ⟨F14, PySem.W.mg_of X G a14, b14⟩,
    f__law_apart := f15, fd__law_apart := _, D__law_apart := ⟨F15, PySem.W.mg_of X G a15, b15⟩,
    f__law_is_even := f16, fd__law_is_even := _, D__law_is_even := ⟨F16, PySem.W.mg_of X G a16, b16⟩,
    f__law_gap_due := f17, fd__law_gap_due := _, D__law_gap_due := ⟨F17, PySem.W.mg_of X G a17, b17⟩,
    f__law_near_right := f18, fd__law_near_right := _, D__law_near_right := ⟨F18, PySem.W.mg_of X G a18, b18⟩,
    f_law := fa, fd_law := _, D_law := ⟨F19, PySem.W.mg_of X G a19, b19⟩ }
  exact ⟨_, fun s v => .of_eq rfl, fun base _ _ => ok_law W⟩

end G
open PySem PySem.W PyProof.Rows
set_option maxHeartbeats 0 in
theorem PySem.Challenge.cw_gapwise_k02_gaps_and_spread_holds : PySem.Challenge.rw_gapwise_k02_gaps_and_spread.Holds := by
  w_on; o_law; k_head; (case hw => w_witness2)
  k_fill
  refine G.walkG (l := PySem.Challenge.rw_gapwise_k02_gaps_and_spread) (n := 63) (k := 6) (x := "script") (sp := fun K => G.sp_law K) rfl (by decide) rfl ⟨rfl, by decide, by decide⟩ (fun w h Y => PySem.W.kIn_of Y) ?F (fun _ _ a ns hl hS => ⟨a, ns, rfl, hS, hl, fun _ => rfl⟩)
  case F =>
    intro w mg fa h KX GX hmg
    refine' G.all_mk KX GX hmg ?a0 ?l0 ?c0 ?k0 ?a1 ?l1 ?c1 ?k1 ?a2 ?l2 ?c2 ?k2 ?a3 ?l3 ?c3 ?k3 ?a4 ?l4 ?c4 ?k4 ?a5 ?l5 ?c5 ?k5 ?a6 ?l6 ?c6 ?k6 ?a7 ?l7 ?c7 ?k7 ?a8 ?l8 ?c8 ?k8 ?a9 ?l9 ?c9 ?k9 ?a10 ?l10 ?c10 ?k10 ?a11 ?l11 ?c11 ?k11 ?a12 ?l12 ?c12 ?k12 ?a13 ?l13 ?c13 ?k13 ?a14 ?l14 ?c14 ?k14 ?a15 ?l15 ?c15 ?k15 ?a16 ?l16 ?c16 ?k16 ?a17 ?l17 ?c17 ?k17 ?a18 ?l18 ?c18 ?k18 ?a19 ?l19 ?c19 ?k19 ?z_abs ?z_int ?z_len ?z_range ?z_all ?z_list ?z_tuple ?z_isinstance ?z_repr ?z_enumerate ?z_dict ?i_gcd
    (case a0 => k_is); (case l0 => k_is); (case c0 => k_is); (case k0 => k_is); (case a1 => k_is); (case l1 => k_is); (case c1 => k_is); (case k1 => k_is); (case a2 => k_is); (case l2 => k_is); (case c2 => k_is); (case k2 => k_is); (case a3 => k_is); (case l3 => k_is); (case c3 => k_is); (case k3 => k_is); (case a4 => k_is); (case l4 => k_is); (case c4 => k_is); (case k4 => k_is); (case a5 => k_is); (case l5 => k_is); (case c5 => k_is); (case k5 => k_is); (case a6 => k_is); (case l6 => k_is); (case c6 => k_is); (case k6 => k_is); (case a7 => k_is); (case l7 => k_is); (case c7 => k_is); (case k7 => k_is); (case a8 => k_is); (case l8 => k_is); (case c8 => k_is); (case k8 => k_is); (case a9 => k_is); (case l9 => k_is); (case c9 => k_is); (case k9 => k_is); (case a10 => k_is); (case l10 => k_is); (case c10 => k_is); (case k10 => k_is); (case a11 => k_is); (case l11 => k_is); (case c11 => k_is); (case k11 => k_is); (case a12 => k_is); (case l12 => k_is); (case c12 => k_is); (case k12 => k_is); (case a13 => k_is); (case l13 => k_is); (case c13 => k_is); (case k13 => k_is); (case a14 => k_is); (case l14 => k_is); (case c14 => k_is); (case k14 => k_is); (case a15 => k_is); (case l15 => k_is); (case c15 => k_is); (case k15 => k_is); (case a16 => k_is); (case l16 => k_is); (case c16 => k_is); (case k16 => k_is); (case a17 => k_is); (case l17 => k_is); (case c17 => k_is); (case k17 => k_is); (case a18 => k_is); (case l18 => k_is); (case c18 => k_is); (case k18 => k_is); (case a19 => k_is); (case l19 => k_is); (case c19 => k_is); (case k19 => k_is); (case z_abs => k_is); (case z_int => k_is); (case z_len => k_is); (case z_range => k_is); (case z_all => k_is); (case z_list => k_is); (case z_tuple => k_is); (case z_isinstance => k_is); (case z_repr => k_is); (case z_enumerate => k_is); (case z_dict => k_is); (case i_gcd => k_is)
